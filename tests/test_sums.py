"""Points 3.1 and 3.2: the sums of a house, and sums added up."""

import itertools
import random
import unittest

from tallyveil.houses import House
from tallyveil.sums import added, ends_of, others_of, sums_of, whole_of
from tallyveil.tables import filled
from tests import helper

LAND_SUMS = {
    # Each sum with its whole and the others, in the told order, and with its sign.
    ("down", "all", "old"): (("all", "old"), [("north", "old"), ("sea", "old")], 1),
    ("down", "all", "sea"): (("all", "sea"), [("north", "sea"), ("sea", "sea")], 1),
    ("down", "all", "all"): (("all", "all"), [("north", "all"), ("sea", "all")], -1),
    ("down", "north", "old"): (("north", "old"), [("coast", "old"), ("hill", "old")], 1),
    ("down", "north", "sea"): (("north", "sea"), [("coast", "sea"), ("hill", "sea")], 1),
    ("down", "north", "all"): (("north", "all"), [("coast", "all"), ("hill", "all")], -1),
    ("down", "coast", "old"): (("coast", "old"), [("bay", "old"), ("cape", "old")], 1),
    ("down", "coast", "sea"): (("coast", "sea"), [("bay", "sea"), ("cape", "sea")], 1),
    ("down", "coast", "all"): (("coast", "all"), [("bay", "all"), ("cape", "all")], -1),
    ("across", "all"): (("all", "all"), [("all", "old"), ("all", "sea")], 1),
    ("across", "sea"): (("sea", "all"), [("sea", "old"), ("sea", "sea")], -1),
    ("across", "hill"): (("hill", "all"), [("hill", "old"), ("hill", "sea")], -1),
    ("across", "bay"): (("bay", "all"), [("bay", "old"), ("bay", "sea")], -1),
    ("across", "cape"): (("cape", "all"), [("cape", "old"), ("cape", "sea")], -1),
}


def sign_of(one):
    if one[0] == "down":
        return -1 if one[2] == "all" else 1
    return 1 if one[1] == "all" else -1


def given(house, one):
    return {whole_of(house, one): sign_of(one), **{place: -sign_of(one) for place in others_of(house, one)}}


def reckoned(house, sums):
    """What the sums give, added up place by place as the document says it."""
    counts = {place: sum(given(house, one).get(place, 0) for one in sums) for place in house.places()}
    return {place: count for place, count in counts.items() if count}


class Sums(unittest.TestCase):
    def test_the_least_house(self):
        house = helper.small_house()
        self.assertEqual(sums_of(house), [("down", "all", "x"), ("down", "all", "all"), ("across", "all"),
                                          ("across", "a")])
        self.assertEqual([whole_of(house, one) for one in sums_of(house)],
                         [("all", "x"), ("all", "all"), ("all", "all"), ("a", "all")])
        self.assertEqual([others_of(house, one) for one in sums_of(house)],
                         [[("a", "x")], [("a", "all")], [("all", "x")], [("a", "x")]])

    def test_parts_under_parts(self):
        house = helper.land()
        self.assertEqual(sums_of(house), list(LAND_SUMS))
        for one, (whole, others, sign) in LAND_SUMS.items():
            self.assertEqual(whole_of(house, one), whole)
            self.assertEqual(others_of(house, one), others)

    def test_one_part_and_eight_columns(self):
        columns = list(reversed(helper.names(8)))
        house = House([("a", "all")], columns)
        self.assertEqual(sums_of(house), [("down", "all", column) for column in columns + ["all"]]
                         + [("across", "all"), ("across", "a")])
        self.assertEqual(others_of(house, ("across", "a")), [("a", column) for column in columns])
        self.assertEqual(others_of(house, ("across", "all")), [("all", column) for column in columns])
        self.assertEqual(others_of(house, ("down", "all", "all")), [("a", "all")])

    def test_many_parts_and_one_column(self):
        parts = list(reversed(helper.names(24)))
        house = House([(part, "all") for part in parts], ["x"])
        self.assertEqual(sums_of(house), [("down", "all", "x"), ("down", "all", "all"), ("across", "all")]
                         + [("across", part) for part in parts])
        self.assertEqual(others_of(house, ("down", "all", "x")), [(part, "x") for part in parts])
        self.assertEqual(others_of(house, ("across", parts[3])), [(parts[3], "x")])

    def test_the_deepest_house(self):
        names = helper.names(24)
        house = helper.deepest_house()
        downs = [("down", part, column) for part in ["all"] + names[:23] for column in ("aa", "all")]
        self.assertEqual(sums_of(house), downs + [("across", "all"), ("across", names[-1])])

    def test_names_like_the_words_of_sums(self):
        house = House([("down", "all"), ("across", "down")], ["across", "down"])
        self.assertEqual(sums_of(house), [
            ("down", "all", "across"), ("down", "all", "down"), ("down", "all", "all"),
            ("down", "down", "across"), ("down", "down", "down"), ("down", "down", "all"),
            ("across", "all"), ("across", "across")])
        self.assertEqual(whole_of(house, ("down", "down", "across")), ("down", "across"))
        self.assertEqual(others_of(house, ("down", "down", "across")), [("across", "across")])
        self.assertEqual(whole_of(house, ("across", "across")), ("across", "all"))
        self.assertEqual(others_of(house, ("across", "across")), [("across", "across"), ("across", "down")])

    def test_many_houses(self):
        for house in helper.some_houses(60):
            parts, rows, columns = house.parts(), house.rows(), house.columns()
            downs = [("down", part, column) for part in ["all"] + parts if part not in rows
                     for column in columns + ["all"]]
            acrosses = [("across", part) for part in ["all"] + rows]
            self.assertEqual(sums_of(house), downs + acrosses)
            for one in downs:
                self.assertEqual(whole_of(house, one), one[1:])
                self.assertEqual(others_of(house, one),
                                 [(part, one[2]) for part in parts if house.above(part) == one[1]])
            for one in acrosses:
                self.assertEqual(whole_of(house, one), (one[1], "all"))
                self.assertEqual(others_of(house, one), [(one[1], column) for column in columns])

    def test_each_sum_holds_in_whole_tables(self):
        chance = random.Random(5)
        for house in helper.some_houses(30):
            table = filled(house, helper.some_cells(chance, house))
            for one in sums_of(house):
                others = others_of(house, one)
                self.assertEqual(table[whole_of(house, one)], sum(table[place] for place in others))
                self.assertEqual(others, [place for place in house.places() if place in others])

    def test_the_kinds(self):
        house = helper.land()
        self.assertIs(sums_of(house).__class__, list)
        for one in sums_of(house):
            self.assertIs(one.__class__, tuple)
            self.assertIs(whole_of(house, one).__class__, tuple)
            self.assertIs(others_of(house, one).__class__, list)
            self.assertTrue(all(place.__class__ is tuple for place in others_of(house, one)))


class Added(unittest.TestCase):
    def add(self, house, sums, counts):
        told = added(house, sums)
        self.assertEqual(list(told.items()), list(counts.items()))
        self.assertIs(told.__class__, dict)
        self.assertTrue(all(count.__class__ is int for count in told.values()))

    def test_none(self):
        for house in helper.some_houses(10):
            self.add(house, [], {})

    def test_each_by_itself(self):
        house = helper.land()
        for one, (whole, others, sign) in LAND_SUMS.items():
            # The whole stands ahead of the others of a sum down, and behind those of a sum across.
            rest = [(place, -sign) for place in others]
            pairs = [(whole, sign)] + rest if one[0] == "down" else rest + [(whole, sign)]
            self.add(house, [one], dict(pairs))

    def test_the_least_house(self):
        house = helper.small_house()
        self.add(house, [("down", "all", "x")], {("all", "x"): 1, ("a", "x"): -1})
        self.add(house, [("down", "all", "all")], {("all", "all"): -1, ("a", "all"): 1})
        self.add(house, [("across", "all")], {("all", "x"): -1, ("all", "all"): 1})
        self.add(house, [("across", "a")], {("a", "x"): 1, ("a", "all"): -1})
        self.add(house, [("across", "a"), ("down", "all", "x")], {("all", "x"): 1, ("a", "all"): -1})

    def test_some_by_hand(self):
        house = helper.land()
        self.add(house, [("down", "north", "old"), ("down", "all", "old")],
                 {("all", "old"): 1, ("coast", "old"): -1, ("sea", "old"): -1, ("hill", "old"): -1})
        self.add(house, [("across", "sea"), ("across", "all"), ("down", "all", "all")],
                 {("all", "old"): -1, ("all", "sea"): -1, ("north", "all"): 1, ("sea", "old"): 1, ("sea", "sea"): 1})

    def test_all_of_them_leave_nothing(self):
        chance = random.Random(6)
        for house in helper.some_houses(60):
            self.add(house, sums_of(house), {})
            self.add(house, helper.shuffled(chance, sums_of(house)), {})

    def test_all_but_one_give_the_opposite_of_that_one(self):
        for house in helper.some_houses(8):
            sums = sums_of(house)
            for number, one in enumerate(sums):
                lone = added(house, [one])
                self.add(house, sums[:number] + sums[number + 1:], {place: -count for place, count in lone.items()})

    def test_every_choice_of_sums_of_small_houses(self):
        for house in (helper.small_house(), House([("a", "all"), ("b", "a")], ["x"]),
                      House([("a", "all"), ("b", "all")], ["x", "y"])):
            sums = sums_of(house)
            for size in range(len(sums) + 1):
                for some in itertools.combinations(sums, size):
                    self.add(house, list(some), reckoned(house, some))

    def test_some_sums_of_many_houses(self):
        chance = random.Random(7)
        for house in helper.some_houses(60):
            sums = sums_of(house)
            table = filled(house, helper.some_cells(chance, house))
            for turn in range(4):
                some = helper.shuffled(chance, sums)[:chance.randint(0, len(sums))]
                self.add(house, some, reckoned(house, some))
                told = added(house, some)
                self.assertLessEqual(set(told.values()), {1, -1})
                self.assertEqual(list(told), [place for place in house.places() if place in told])
                self.assertEqual(sum(count * table[place] for place, count in told.items()), 0)


class Ends(unittest.TestCase):
    def test_the_least_house(self):
        self.assertEqual(list(ends_of(helper.small_house()).items()), [
            (("all", "x"), (("down", "all", "x"), ("across", "all"))),
            (("all", "all"), (("across", "all"), ("down", "all", "all"))),
            (("a", "x"), (("across", "a"), ("down", "all", "x"))),
            (("a", "all"), (("down", "all", "all"), ("across", "a"))),
        ])

    def test_parts_under_parts(self):
        ends = ends_of(helper.land())
        self.assertEqual(list(ends), helper.land().places())
        self.assertEqual(ends[("north", "old")], (("down", "north", "old"), ("down", "all", "old")))
        self.assertEqual(ends[("north", "all")], (("down", "all", "all"), ("down", "north", "all")))
        self.assertEqual(ends[("bay", "sea")], (("across", "bay"), ("down", "coast", "sea")))
        self.assertEqual(ends[("bay", "all")], (("down", "coast", "all"), ("across", "bay")))
        self.assertEqual(ends[("all", "all")], (("across", "all"), ("down", "all", "all")))

    def test_each_place_stands_in_just_two_sums(self):
        for house in helper.some_houses(60):
            ends = ends_of(house)
            self.assertEqual(list(ends), house.places())
            self.assertIs(ends.__class__, dict)
            given_of = {one: given(house, one) for one in sums_of(house)}
            for place, pair in ends.items():
                self.assertIs(pair.__class__, tuple)
                holders = {one: counts[place] for one, counts in given_of.items() if place in counts}
                self.assertEqual(holders, {pair[0]: 1, pair[1]: -1})

    def test_added_gives_what_the_ends_say(self):
        house = helper.land()
        for place, (first, second) in ends_of(house).items():
            self.assertEqual(added(house, [first])[place], 1)
            self.assertEqual(added(house, [second])[place], -1)
            self.assertNotIn(place, added(house, [first, second]))


class KeptApart(unittest.TestCase):
    def told(self, house):
        return [sums_of(house), others_of(house, ("across", "sea")), others_of(house, ("down", "north", "old")),
                added(house, [("across", "sea")]), ends_of(house)]

    def test_what_is_handed_in_is_not_changed(self):
        house, sums = helper.land(), [("across", "sea"), ("down", "all", "old"), ("across", "all")]
        before = list(sums)
        added(house, sums)
        self.told(house)
        self.assertEqual(sums, before)
        self.assertEqual(house.places(), helper.land().places())

    def test_changing_what_was_told_or_handed_in_changes_nothing(self):
        house, sums = helper.land(), [("across", "sea")]
        fresh = self.told(helper.land())
        for number in range(len(fresh)):
            earlier, told = self.told(house), self.told(house)
            told[number].clear()
            self.assertEqual(earlier, fresh)
            self.assertEqual(self.told(house), fresh)
            self.assertEqual(house.places(), helper.land().places())
        counts = added(house, sums)
        sums.append(("across", "all"))
        self.assertEqual(counts, fresh[3])
        self.assertEqual(house.beneath("north"), ["coast", "hill"])


if __name__ == "__main__":
    unittest.main()
