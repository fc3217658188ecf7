"""Points 0.2, 1.1 and 1.2: whole numbers, names, houses, places and cells."""

import unittest

from tallyveil.errors import NoHouse
from tallyveil.houses import House, is_name, is_whole
from tests import helper

LAND_PARTS = [("north", "all"), ("coast", "north"), ("sea", "all"), ("hill", "north"),
              ("bay", "coast"), ("cape", "coast")]


class WholeNumbers(unittest.TestCase):
    def test_ints_are(self):
        for number in (0, 1, -1, 2, 7, -12, 10 ** 18, 10 ** 18 + 1, -10 ** 18, 10 ** 399, -10 ** 399):
            with self.subTest(number):
                self.assertIs(is_whole(number), True)

    def test_all_else_is_not(self):
        for thing in helper.no_whole_numbers():
            self.assertIs(is_whole(thing), False)


class Names(unittest.TestCase):
    def test_one_to_eight_small_letters(self):
        for text in ("a", "z", "m", "az", "al", "alla", "aal", "allall", "in", "part", "column", "north",
                     "abcdefgh", "zzzzzzzz", "aaaaaaaa"):
            with self.subTest(text):
                self.assertIs(is_name(text), True)

    def test_each_small_letter(self):
        for letter in "abcdefghijklmnopqrstuvwxyz":
            self.assertIs(is_name(letter), True)
            self.assertIs(is_name("n" + letter), True)

    def test_other_texts_are_none(self):
        for text in ("", "abcdefghi", "a" * 20000, "all", "A", "North", "norTh", "northE", "ALL", "All",
                     "1", "a1", "1a", "a2b", " ", "a ", " a", "a b", "\n", "a\n", "\na", "a\nb", "all\n",
                     "a\t", "-", "a-b", "-a", "a-", "_", "a_b", "*", "a.", "a\0", "`", "{", "a{", "`a", "@", "["):
            with self.subTest(text):
                self.assertIs(is_name(text), False)

    def test_letters_beyond_a_to_z(self):
        for text in ("\u00e4", "\u00e9a", "stra\u00dfe", "\u00f1", "\u03b1", "\u0430", "\uff41", "\u0131", "a\u0301",
                     "\u00aa", "\u017f", "\U0001d41a"):
            with self.subTest(ascii(text)):
                self.assertIs(is_name(text), False)

    def test_things_that_are_no_text(self):
        for thing in helper.no_texts():
            self.assertIs(is_name(thing), False)


class Allowed(unittest.TestCase):
    def test_the_least_house(self):
        house = House([("a", "all")], ["x"])
        self.assertEqual(house.parts(), ["a"])
        self.assertEqual(house.rows(), ["a"])
        self.assertEqual(house.columns(), ["x"])
        self.assertEqual(house.above("a"), "all")
        self.assertEqual(house.beneath("all"), ["a"])
        self.assertEqual(house.beneath("a"), [])

    def test_the_greatest_flat_house(self):
        parts, columns = list(reversed(helper.names(24))), list(reversed(helper.names(8)))
        house = House([(part, "all") for part in parts], columns)
        self.assertEqual(house.parts(), parts)
        self.assertEqual(house.rows(), parts)
        self.assertEqual(house.columns(), columns)
        self.assertEqual(house.beneath("all"), parts)

    def test_the_deepest_house(self):
        parts = helper.names(24)
        house = House(list(zip(parts, ["all"] + parts)), ["x"])
        self.assertEqual(house.parts(), parts)
        self.assertEqual(house.rows(), [parts[-1]])
        self.assertEqual(house.beneath("all"), parts[:1])
        self.assertEqual(house.beneath(parts[-1]), [])
        for upper, lower in zip(parts, parts[1:]):
            self.assertEqual(house.above(lower), upper)
            self.assertEqual(house.beneath(upper), [lower])

    def test_parts_under_parts(self):
        house = House(list(LAND_PARTS), ["old", "sea"])
        self.assertEqual(house.parts(), ["north", "coast", "sea", "hill", "bay", "cape"])
        self.assertEqual(house.rows(), ["sea", "hill", "bay", "cape"])
        self.assertEqual(house.columns(), ["old", "sea"])
        self.assertEqual([house.above(part) for part in house.parts()],
                         ["all", "north", "all", "north", "coast", "coast"])
        self.assertEqual(house.beneath("all"), ["north", "sea"])
        self.assertEqual(house.beneath("north"), ["coast", "hill"])
        self.assertEqual(house.beneath("coast"), ["bay", "cape"])
        for row in house.rows():
            self.assertEqual(house.beneath(row), [])

    def test_names_of_one_and_eight_letters(self):
        house = House([("a", "all"), ("abcdefgh", "a")], ["z", "zyxwvuts"])
        self.assertEqual(house.above("abcdefgh"), "a")
        self.assertEqual(house.columns(), ["z", "zyxwvuts"])

    def test_a_part_with_the_name_of_a_column(self):
        house = House([("x", "all"), ("y", "all")], ["y", "x"])
        self.assertEqual(house.parts(), ["x", "y"])
        self.assertEqual(house.columns(), ["y", "x"])
        self.assertEqual(house.cells(), [("x", "y"), ("x", "x"), ("y", "y"), ("y", "x")])

    def test_texts_of_a_narrower_kind_are_the_names_of_their_signs(self):
        for kind in (helper.KeylessText, helper.OddText):
            house = House([(kind("a"), kind("all")), (kind("b"), kind("a"))], [kind("x")])
            self.assertEqual(house.above("b"), "a")
            self.assertEqual(house.beneath("all"), ["a"])
            self.assertEqual(house.places(), [("all", "x"), ("all", "all"), ("a", "x"), ("a", "all"),
                                              ("b", "x"), ("b", "all")])
            self.assertIn(("b", "x"), dict.fromkeys(house.places()))


class Refused(unittest.TestCase):
    def refuse(self, parts, columns):
        with self.assertRaises(NoHouse) as caught:
            House(parts, columns)
        self.assertIs(caught.exception.__class__, NoHouse)

    def refuse_parts(self, parts):
        self.refuse(parts, ["x"])

    def refuse_columns(self, columns):
        self.refuse([("a", "all")], columns)

    def test_none_and_one_too_many(self):
        self.refuse_parts([])
        self.refuse_columns([])
        self.refuse([], [])
        self.refuse_parts([(name, "all") for name in helper.names(25)])
        self.refuse_columns(helper.names(9))
        self.refuse_parts([(name, "all") for name in helper.names(600)])
        self.refuse_columns(helper.names(600))

    def test_no_lists(self):
        for thing in helper.no_lists():
            self.refuse_parts(thing)
            self.refuse_columns(thing)
            self.refuse(thing, thing)
        self.refuse_parts((("a", "all"),))
        self.refuse_parts({("a", "all"): True})
        self.refuse_parts({("a", "all")})
        self.refuse_parts(iter([("a", "all")]))
        self.refuse_columns(("x",))
        self.refuse_columns("x")
        self.refuse_columns({"x": True})
        self.refuse_columns(iter(["x"]))

    def test_parts_that_are_no_tuples_of_two(self):
        things = [(), ("a",), ("a", "all", "all"), ("a", "all", None), ["a", "all"], "aa", {"a": "all", "b": "all"}]
        for thing in things + helper.no_things_of(tuple):
            self.refuse_parts([thing])
            self.refuse_parts([("b", "all"), thing])
            self.refuse_parts([thing, ("b", "all")])

    def test_names_that_are_none(self):
        for thing in ["", "all", "A", "a1", "a b", "a\n", "abcdefghi", "\u00e4", "a-b"] + helper.no_texts():
            self.refuse_parts([(thing, "all")])
            self.refuse_parts([("b", "all"), (thing, "b")])
            self.refuse_columns([thing])
            self.refuse_columns(["y", thing])

    def test_names_that_stand_twice(self):
        self.refuse_parts([("a", "all"), ("a", "all")])
        self.refuse_parts([("a", "all"), ("b", "all"), ("a", "b")])
        self.refuse_parts([("a", "all"), ("b", "a"), ("b", "all")])
        self.refuse_parts([("a", "all"), ("a", "a")])
        self.refuse_columns(["x", "x"])
        self.refuse_columns(["x", "y", "z", "x"])
        self.refuse_columns(["x", helper.OddText("x")])
        self.refuse_parts([("a", "all"), (helper.OddText("a"), "all")])

    def test_above_is_the_part_itself(self):
        self.refuse_parts([("a", "a")])
        self.refuse_parts([("a", "all"), ("b", "b")])

    def test_above_stands_behind(self):
        self.refuse_parts([("a", "b"), ("b", "all")])
        self.refuse_parts([("a", "all"), ("b", "c"), ("c", "a")])
        self.refuse_parts([("a", "b"), ("b", "a")])

    def test_above_is_nobodys_name(self):
        for above in ("b", "x", "", "All", "ALL", "all ", " all", "all\n", "a ", "A", "a\n", "none", "abcdefghi"):
            with self.subTest(above):
                self.refuse_parts([("c", above)])
                self.refuse_parts([("a", "all"), ("c", above)])

    def test_above_is_no_text(self):
        for above in helper.no_texts():
            self.refuse_parts([("a", above)])
            self.refuse_parts([("a", "all"), ("b", above)])

    def test_refused_is_refused_again_and_changes_nothing(self):
        parts, columns = [("a", "all"), ("b", "c")], ["x", "x"]
        for turn in range(2):
            self.refuse(parts, columns)
            self.assertEqual(parts, [("a", "all"), ("b", "c")])
            self.assertEqual(columns, ["x", "x"])
        columns.pop()
        parts[1] = ("b", "a")
        self.assertEqual(House(parts, columns).rows(), ["b"])


class Places(unittest.TestCase):
    def test_the_least_house(self):
        house = helper.small_house()
        self.assertEqual(house.places(), [("all", "x"), ("all", "all"), ("a", "x"), ("a", "all")])
        self.assertEqual(house.cells(), [("a", "x")])

    def test_all_first_then_the_parts_and_columns_in_their_order(self):
        house = House([("z", "all"), ("m", "all"), ("a", "z")], ["y", "b"])
        self.assertEqual(house.places(), [
            ("all", "y"), ("all", "b"), ("all", "all"),
            ("z", "y"), ("z", "b"), ("z", "all"),
            ("m", "y"), ("m", "b"), ("m", "all"),
            ("a", "y"), ("a", "b"), ("a", "all"),
        ])
        self.assertEqual(house.cells(), [("m", "y"), ("m", "b"), ("a", "y"), ("a", "b")])

    def test_parts_under_parts(self):
        house = helper.land()
        self.assertEqual(house.places(), list(helper.land_table()))
        self.assertEqual(house.cells(), list(helper.land_cells()))

    def test_the_kinds(self):
        for told in (helper.land().places(), helper.land().cells()):
            self.assertIs(told.__class__, list)
            for place in told:
                self.assertIs(place.__class__, tuple)

    def test_many_houses(self):
        for house in helper.some_houses(60):
            parts, columns = house.parts(), house.columns()
            uppers = [house.above(part) for part in parts]
            rows = [part for part in parts if part not in uppers]
            self.assertEqual(house.rows(), rows)
            self.assertEqual(house.places(),
                             [(part, column) for part in ["all"] + parts for column in columns + ["all"]])
            self.assertEqual(house.cells(), [(row, column) for row in rows for column in columns])
            for part in ["all"] + parts:
                self.assertEqual(house.beneath(part), [one for one in parts if house.above(one) == part])


class KeptApart(unittest.TestCase):
    def told(self, house):
        return [house.parts(), house.rows(), house.columns(), house.places(), house.cells()] + [
            house.beneath(part) for part in ["all", "north", "coast", "sea", "hill", "bay", "cape"]]

    def test_what_is_handed_in_is_not_changed(self):
        parts, columns = list(LAND_PARTS), ["old", "sea"]
        self.told(House(parts, columns))
        self.assertEqual(parts, LAND_PARTS)
        self.assertEqual(columns, ["old", "sea"])

    def test_changing_what_was_handed_in_changes_nothing(self):
        parts, columns = list(LAND_PARTS), ["old", "sea"]
        house = House(parts, columns)
        before = self.told(house)
        parts[1] = ("other", "all")
        parts.append(("more", "all"))
        columns.reverse()
        columns.clear()
        self.assertEqual(self.told(house), before)

    def test_changing_what_was_told_changes_nothing(self):
        house, fresh = helper.land(), self.told(helper.land())
        for number in range(len(fresh)):
            earlier = self.told(house)
            told = self.told(house)
            told[number].append("more")
            told[number].reverse()
            self.assertEqual(earlier, fresh)
            self.assertEqual(self.told(house), fresh)
            self.assertEqual([house.above(part) for part in house.parts()],
                             [above for part, above in LAND_PARTS])
            told[number].clear()
            self.assertEqual(self.told(house), fresh)

    def test_two_houses_of_the_same_lists_are_apart(self):
        parts, columns = [("a", "all")], ["x"]
        first = House(parts, columns)
        parts.append(("b", "a"))
        columns.append("y")
        second = House(parts, columns)
        self.assertEqual((first.rows(), first.columns()), (["a"], ["x"]))
        self.assertEqual((second.rows(), second.columns()), (["b"], ["x", "y"]))


if __name__ == "__main__":
    unittest.main()
