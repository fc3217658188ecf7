"""Points 6.1 and 6.2: what sums show, and sums that show the least and the greatest."""

import itertools
import os
import pathlib
import random
import subprocess
import sys
import unittest
from collections import defaultdict

from tallyveil.houses import House
from tallyveil.papers import at_least, at_most, sums_above, sums_below
from tallyveil.spans import span
from tallyveil.sums import added, sums_of
from tallyveil.tables import filled
from tests import helper
from tests.helper import numbers_of, reckoned, small_houses, square, square_table

ROOT = pathlib.Path(__file__).resolve().parent.parent


class Shown(helper.Checked):
    NUMBERS = {("all", "x"): 12, ("all", "y"): 14, ("a", "all"): 11, ("b", "all"): 15}

    def ask(self, numbers, place, sums, least, most, house=None):
        house = house or square()
        for ask, told in ((at_least, least), (at_most, most)):
            number = ask(house, numbers, place, sums)
            self.assertEqual(number, told)
            self.assertIn(number.__class__, (int, None.__class__))

    def test_no_sums(self):
        for place in square().places():
            if place in self.NUMBERS:
                self.ask(self.NUMBERS, place, [], self.NUMBERS[place], self.NUMBERS[place])
            else:
                self.ask(self.NUMBERS, place, [], 0, None)
            self.ask({}, place, [], 0, None)
            self.ask({place: 0}, place, [], 0, 0)
            self.ask({place: 10 ** 30}, place, [], 10 ** 30, 10 ** 30)

    def test_one_sum(self):
        # Its others are at most its whole; the sign of each sum is another one.
        self.ask(self.NUMBERS, ("a", "x"), [("down", "all", "x")], None, 12)
        self.ask(self.NUMBERS, ("b", "y"), [("down", "all", "y")], None, 14)
        self.ask(self.NUMBERS, ("a", "x"), [("across", "a")], None, 11)
        self.ask(self.NUMBERS, ("b", "y"), [("across", "b")], None, 15)
        # Its whole, of which all others are known.
        self.ask(self.NUMBERS, ("all", "all"), [("across", "all")], 26, 26)
        self.ask(self.NUMBERS, ("all", "all"), [("down", "all", "all")], 26, 26)

    def test_the_whole_is_at_least_some_of_the_others(self):
        numbers = {("a", "x"): 5}
        self.ask(numbers, ("a", "all"), [("across", "a")], 5, None)
        self.ask(numbers, ("all", "x"), [("down", "all", "x")], 5, None)
        self.ask({("b", "all"): 15}, ("all", "all"), [("down", "all", "all")], 15, None)
        self.ask({("all", "y"): 14}, ("all", "all"), [("across", "all")], 14, None)
        self.ask({}, ("a", "all"), [("across", "a")], 0, None)

    def test_some_sums(self):
        # What a has beyond the whole column y must be in x.
        self.ask({("a", "all"): 20, ("all", "y"): 5}, ("a", "x"), [("across", "a"), ("down", "all", "y")], 15, None)
        self.ask({("a", "all"): 20, ("all", "y"): 5}, ("a", "x"), [("down", "all", "y"), ("across", "a")], 15, None)
        # It may be less than nothing.
        self.ask({("a", "all"): 20, ("all", "y"): 25}, ("a", "x"), [("across", "a"), ("down", "all", "y")], -5, None)
        self.ask({("all", "y"): 11}, ("a", "x"), [("across", "a"), ("down", "all", "y")], -11, None)
        # b has in x at most what all have in x beside the 1 of a.
        numbers = {("all", "all"): 26, ("all", "y"): 14, ("a", "x"): 1}
        self.ask(numbers, ("b", "x"), [("across", "all"), ("down", "all", "x")], 11, 11)
        del numbers[("a", "x")]
        self.ask(numbers, ("b", "x"), [("across", "all"), ("down", "all", "x")], None, 12)

    def test_all_sums(self):
        for place in square().places():
            self.ask({}, place, sums_of(square()), None, None)
            self.ask(self.NUMBERS, place, sums_of(square()), None, None)
            self.ask({("a", "x"): 5}, place, sums_of(square()), None, None)

    def test_all_sums_but_one_show_what_that_one_does(self):
        for one in sums_of(square()):
            rest = [other for other in sums_of(square()) if other != one]
            for place in square().places():
                self.ask(self.NUMBERS, place, rest, at_least(square(), self.NUMBERS, place, [one]),
                         at_most(square(), self.NUMBERS, place, [one]))

    def test_nothing_is_shown_where_the_place_has_nothing(self):
        numbers = numbers_of(square(), square_table(5, 6, 7, 8), square().places()[:-4])
        self.ask(numbers, ("b", "x"), [("across", "a")], None, None)
        self.ask(numbers, ("b", "x"), [("down", "all", "y"), ("across", "a")], None, None)
        # Both of the sums in which it stands.
        self.ask(numbers, ("b", "x"), [("down", "all", "x"), ("across", "b")], None, None)

    def test_nothing_is_shown_where_others_have_both(self):
        # Of a in x: a in y, or all in y, has the same, and a, or b in y, what is opposite.
        self.ask({}, ("a", "x"), [("across", "a")], None, None)
        self.ask({("a", "all"): 11}, ("a", "x"), [("across", "a"), ("down", "all", "y")], None, None)
        # Of all: all in y has what is opposite, a in x and a in y have the same.
        self.ask({("all", "x"): 12, ("a", "all"): 11}, ("all", "all"), [("across", "all"), ("across", "a")], None, None)

    def test_nothing_is_shown_of_a_known_place_by_any_sums(self):
        numbers = square_table(5, 6, 7, 8)
        for place in square().places():
            for one in sums_of(square()):
                self.ask(numbers, place, [one], None, None)
                self.ask({place: numbers[place]}, place, [one], None, None)

    def test_numbers_that_fit_no_table(self):
        self.ask({("a", "all"): 3, ("a", "x"): 10}, ("a", "y"), [("across", "a")], -7, -7)

    def test_many_figures(self):
        numbers = {place: number * 10 ** 390 for place, number in self.NUMBERS.items()}
        self.ask(numbers, ("a", "x"), [("down", "all", "x")], None, 12 * 10 ** 390)
        self.ask(numbers, ("all", "all"), [("across", "all")], 26 * 10 ** 390, 26 * 10 ** 390)

    def test_numbers_in_any_order_and_of_a_narrower_kind(self):
        for numbers in [dict(reversed(self.NUMBERS.items()))] + helper.dict_kinds(self.NUMBERS):
            self.ask(numbers, ("b", "y"), [("down", "all", "y")], None, 14)
            self.ask(numbers, ("b", "y"), [], 0, None)
            self.ask(numbers, ("b", "all"), [], 15, 15)
            self.assertEqual(dict(numbers), self.NUMBERS)

    def test_every_choice_of_sums_of_small_houses(self):
        chance = random.Random(40)
        shown = {"least": 0, "most": 0, "both": 0, "none": 0}
        for house in (helper.small_house(), square(), House([("a", "all"), ("b", "a"), ("c", "a")], ["x"])):
            table = filled(house, {cell: chance.randint(0, 9) for cell in house.cells()})
            sums = sums_of(house)
            choices = [list(some) for size in range(len(sums) + 1) for some in itertools.combinations(sums, size)]
            for turn in range(12):
                numbers = numbers_of(house, table, helper.some_known(chance, house))
                for some in choices:
                    for place in house.places():
                        least, most = reckoned(house, numbers, place, some)
                        self.ask(numbers, place, some, least, most, house)
                        shown["none" if least is most is None else "most" if least is None
                              else "least" if most is None else "both"] += 1
        self.assertTrue(all(count > 50 for count in shown.values()), shown)

    def test_some_sums_of_many_houses(self):
        chance = random.Random(41)
        for house in helper.some_houses(40):
            table = filled(house, helper.some_cells(chance, house))
            for turn in range(6):
                numbers = numbers_of(house, table, helper.some_known(chance, house))
                some = helper.shuffled(chance, sums_of(house))[:chance.choice([1, 2, 3, 5, 9, 40])]
                for place in list(added(house, some))[:10]:
                    least, most = reckoned(house, numbers, place, some)
                    self.ask(numbers, place, some, least, most, house)

    def test_what_is_shown_is_so_in_all_tables_that_agree(self):
        chance = random.Random(42)
        for house in small_houses():
            table = filled(house, {cell: chance.randint(0, 2) for cell in house.cells()})
            for turn in range(60):
                numbers = numbers_of(house, table, helper.some_known(chance, house))
                some = helper.shuffled(chance, sums_of(house))[:chance.randint(0, 5)]
                if not helper.can_be_searched(house, numbers):
                    continue
                for place, (least, greatest) in helper.searched_spans(house, numbers).items():
                    low, high = at_least(house, numbers, place, some), at_most(house, numbers, place, some)
                    self.assertTrue(low is None or low <= least)
                    self.assertTrue(high is None or greatest is not None and greatest <= high)


class Checked(helper.Checked):
    def check_sums(self, house, sums):
        self.assertIs(sums.__class__, list)
        self.assertTrue(all(one.__class__ is tuple for one in sums))
        self.assertEqual(len(set(sums)), len(sums))
        self.assertLessEqual(set(sums), set(sums_of(house)))

    def check_papers(self, house, table, known, place):
        """All that is promised of the sums that are told of a place; what they show."""
        numbers = numbers_of(house, table, known)
        below, above = sums_below(house, table, known, place), sums_above(house, table, known, place)
        self.check_sums(house, below)
        least, greatest = at_least(house, numbers, place, below), None
        self.assertEqual(least, reckoned(house, numbers, place, below)[0])
        if above is not None:
            self.check_sums(house, above)
            greatest = at_most(house, numbers, place, above)
            self.assertIsNotNone(greatest)
            self.assertEqual(greatest, reckoned(house, numbers, place, above)[1])
        return (least, greatest)


class ByHand(Checked):
    def ask(self, known, place, told, table=None):
        self.assertEqual(self.check_papers(square(), table or square_table(5, 6, 7, 8), known, place), told)

    def test_nothing_known(self):
        for place in square().places():
            self.ask([], place, (0, None))

    def test_known_places(self):
        for place in square().places():
            number = square_table(5, 6, 7, 8)[place]
            self.ask([place], place, (number, number))
            self.ask(square().places(), place, (number, number))
            for ask in (sums_below, sums_above):
                self.assertEqual(ask(square(), square_table(5, 6, 7, 8), [place, place], place), [])

    def test_all_but_one_known(self):
        for place in square().places():
            number = square_table(5, 6, 7, 8)[place]
            self.ask([one for one in square().places() if one != place], place, (number, number))

    def test_sums_known(self):
        known = [place for place in square().places() if place not in square().cells()]
        for cell, told in zip(square().cells(), ((0, 11), (0, 11), (1, 12), (3, 14))):
            self.ask(known, cell, told)

    def test_none_where_there_is_no_greatest(self):
        known, table = [("a", "all"), ("all", "y")], square_table(18, 2, 1, 3)
        self.ask(known, ("a", "x"), (15, 20), table)
        self.ask(known, ("all", "x"), (15, None), table)
        self.ask(known, ("b", "x"), (0, None), table)
        self.ask(known, ("b", "y"), (0, 5), table)

    def test_noughts(self):
        for known in ([("all", "all")], [("a", "all"), ("all", "y")], square().cells()):
            self.ask(known, ("a", "x"), (0, 0), square_table(0, 0, 0, 0))

    def test_known_numbers_that_are_nought(self):
        self.ask([("a", "x"), ("a", "y")], ("a", "all"), (0, 0), square_table(0, 0, 3, 4))
        self.ask([("a", "x"), ("a", "all")], ("a", "y"), (0, 0), square_table(0, 0, 3, 4))


class ShowTheSpan(Checked):
    def compare(self, house, table, known, place):
        told = self.check_papers(house, table, known, place)
        self.assertEqual(told, span(house, table, known, place))
        return told

    def test_small_houses_searched(self):
        chance = random.Random(43)
        for house in small_houses():
            for table, known in helper.some_searchable(chance, house, 15):
                searched = helper.searched_spans(house, numbers_of(house, table, known))
                for place in house.places():
                    self.assertEqual(self.compare(house, table, known, place), searched[place])

    def test_no_sums_show_more(self):
        # Of all choices of sums, none shows more than those that are told.
        chance = random.Random(44)
        house = square()
        sums = sums_of(house)
        choices = [list(some) for size in range(len(sums) + 1) for some in itertools.combinations(sums, size)]
        for turn in range(25):
            table = square_table(*[chance.choice([0, 1, 7, 10 ** 18]) for count in range(4)])
            known = helper.some_known(chance, house)
            numbers = numbers_of(house, table, known)
            for place in house.places():
                shown = [reckoned(house, numbers, place, some) for some in choices]
                best = (max(least for least, most in shown if least is not None),
                        min([most for least, most in shown if most is not None], default=None))
                self.assertEqual(self.compare(house, table, known, place), best)

    def test_counts_of_all_sizes(self):
        chance = random.Random(45)
        for house in helper.some_houses(40):
            table = filled(house, helper.some_cells(chance, house))
            for turn in range(3):
                known = helper.some_known(chance, house)
                for place in helper.shuffled(chance, house.places())[:5]:
                    with helper.within(20):
                        self.compare(house, table, known, place)

    def test_great_counts(self):
        chance = random.Random(46)
        ends = {"none": 0, "one": 0, "wide": 0, "raised": 0}
        for house in helper.some_houses(40):
            table = filled(house, {cell: chance.randint(0, 10 ** 18) for cell in house.cells()})
            places = helper.shuffled(chance, house.places())
            for share in (1, 2, 4, 6):
                known = places[:len(places) * share // 8]
                for place in [place for place in places if place not in known][:5]:
                    with helper.within(20):
                        least, greatest = self.compare(house, table, known, place)
                    ends["none" if greatest is None else "one" if least == greatest else "wide"] += 1
                    ends["raised"] += least > 0 and least != greatest
        # The inputs are such that each answer comes.
        self.assertTrue(all(count > 20 for count in ends.values()), ends)


class TheSameEachTime(Checked):
    def told(self, house, table, known, place):
        return (sums_below(house, table, known, place), sums_above(house, table, known, place))

    def test_asked_again(self):
        chance = random.Random(47)
        for house in helper.some_houses(20):
            table = filled(house, helper.some_cells(chance, house))
            known = helper.shuffled(chance, house.places())[:len(house.places()) // 2]
            same = House([(part, house.above(part)) for part in house.parts()], house.columns())
            for place in helper.shuffled(chance, house.places())[:5]:
                first = self.told(house, table, known, place)
                self.assertEqual(self.told(house, table, known, place), first)
                self.assertEqual(self.told(same, table, known, place), first)
                self.assertEqual(self.told(house, table, helper.shuffled(chance, known + known[:4]), place), first)
                mixed = dict(helper.shuffled(chance, table.items()))
                self.assertEqual(self.told(house, mixed, known, place), first)

    def test_asked_by_other_runs(self):
        code = "from tests.test_papers import some_told; print(some_told())"
        for seed in ("0", "1", "77"):
            run = subprocess.run([sys.executable, "-c", code], cwd=ROOT, capture_output=True, text=True,
                                 env={**os.environ, "PYTHONHASHSEED": seed, "PYTHONDONTWRITEBYTECODE": "1"})
            self.assertEqual(run.stdout, f"{some_told()}\n", run.stderr)


def some_told():
    chance = random.Random(48)
    house = helper.greatest_house()
    table = filled(house, helper.some_cells(chance, house))
    known = helper.shuffled(chance, house.places())[:100]
    return [ask(house, table, known, place) for place in house.places()[::20] for ask in (sums_below, sums_above)]


class KeptApart(helper.Checked):
    KNOWN = [("a", "all"), ("all", "y"), ("a", "all"), ("b", "y")]

    def test_what_is_handed_in_is_not_changed(self):
        house, table, known = square(), square_table(5, 6, 7, 8), list(self.KNOWN)
        numbers, sums = defaultdict(int, {("a", "all"): 11, ("b", "x"): 7}), [("across", "a"), ("down", "all", "x")]
        for place in house.places():
            for some in (sums, []):
                at_least(house, numbers, place, some)
                at_most(house, numbers, place, some)
            sums_below(house, table, known, place)
            sums_above(house, table, known, place)
        self.assertEqual(list(numbers.items()), [(("a", "all"), 11), (("b", "x"), 7)])
        self.assertEqual(sums, [("across", "a"), ("down", "all", "x")])
        self.assertEqual(list(table.items()), list(square_table(5, 6, 7, 8).items()))
        self.assertEqual(known, self.KNOWN)
        self.assertEqual(house.places(), square().places())

    def told(self, house, table, known):
        return [ask(house, table, known, place) for ask in (sums_below, sums_above) for place in house.places()]

    def test_changing_what_was_told_or_handed_in_changes_nothing(self):
        house, table, known = square(), square_table(5, 6, 7, 8), list(self.KNOWN)
        fresh = self.told(square(), square_table(5, 6, 7, 8), list(self.KNOWN))
        for number, thing in enumerate(fresh):
            if thing is not None:
                earlier, told = self.told(house, table, known), self.told(house, table, known)
                told[number].append(("across", "all"))
                self.assertEqual(earlier, fresh)
                self.assertEqual(self.told(house, table, known), fresh)
        told = self.told(house, table, known)
        table.clear()
        known.clear()
        self.assertEqual(told, fresh)


if __name__ == "__main__":
    unittest.main()
