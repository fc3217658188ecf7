"""Points 2.1 and 2.2: the texts of houses, and of a table or some of its numbers."""

import random
import re
import unittest
from collections import defaultdict

from tallyveil.errors import NoText
from tallyveil.houses import House
from tallyveil.tables import filled
from tallyveil.texts import read_house, read_numbers, show_house, show_numbers
from tests import helper
from tests.helper import BLANKS, OTHER_FIGURES, is_house_text, same_house

LAND_TEXT = ("part north\npart coast in north\npart sea\npart hill in north\npart bay in coast\n"
             "part cape in coast\ncolumn old\ncolumn sea")
ODD_TEXT = ("part in\npart part in in\npart column in part\npart a in in\npart row\n"
            "column column\ncolumn in\ncolumn part")
LAND_NUMBERS = ("all: 7050301 80604020 = 87654321\nnorth: 7050300 80604000 = 87654300\n"
                "coast: 7050000 80600000 = 87650000\nsea: 1 20 = 21\nhill: 300 4000 = 4300\n"
                "bay: 50000 600000 = 650000\ncape: 7000000 80000000 = 87000000")
LAND_NOTHING = "all: * * = *\nnorth: * * = *\ncoast: * * = *\nsea: * * = *\nhill: * * = *\nbay: * * = *\ncape: * * = *"
PAIR_SOME = "all: 3 * = 0\na: * 12 = *\nb: 40 5 = 17"
FIGURES = r"(0|[1-9][0-9]{0,39}|\*)"


def pair():
    return House([("a", "all"), ("b", "all")], ["x", "y"])


def is_numbers_text(house, text):
    rows = text.split("\n")
    parts = ["all"] + house.parts()
    shapes = [part + ":" + (" " + FIGURES) * len(house.columns()) + " = " + FIGURES for part in parts]
    return len(rows) == len(parts) and all(re.fullmatch(shape, row) for shape, row in zip(shapes, rows))


class HouseWritten(unittest.TestCase):
    def show(self, house, text):
        self.assertEqual(show_house(house), text)
        self.assertIs(show_house(house).__class__, str)

    def test_the_least_house(self):
        self.show(helper.small_house(), "part a\ncolumn x")

    def test_parts_under_parts(self):
        self.show(helper.land(), LAND_TEXT)

    def test_names_like_the_words(self):
        self.show(helper.odd_words_house(), ODD_TEXT)

    def test_one_column_and_eight(self):
        for count in (1, 8):
            house = House([("a", "all")], helper.names(count))
            self.show(house, "part a\n" + "\n".join("column " + name for name in helper.names(count)))

    def test_the_greatest_house(self):
        rows = ["part " + name for name in helper.names(24)] + ["column " + name for name in helper.names(8)]
        self.show(helper.greatest_house(), "\n".join(rows))

    def test_the_deepest_house(self):
        names = helper.names(24)
        rows = ["part aa"] + [f"part {lower} in {upper}" for upper, lower in zip(names, names[1:])] + ["column aa"]
        self.show(helper.deepest_house(), "\n".join(rows))


class HouseRead(unittest.TestCase):
    def test_what_is_written_is_read_to_the_same(self):
        for house in helper.some_houses(80) + [helper.odd_words_house(), helper.deepest_house(8)]:
            text = show_house(house)
            read = read_house(text)
            self.assertIsInstance(read, House)
            same_house(self, read, house)
            self.assertEqual(show_house(read), text)

    def test_texts_by_hand(self):
        same_house(self, read_house("part a\ncolumn x"), helper.small_house())
        same_house(self, read_house(LAND_TEXT), helper.land())
        same_house(self, read_house(ODD_TEXT), helper.odd_words_house())

    def test_words_are_told_apart_by_their_count(self):
        house = read_house("part in\npart b in in\npart part\npart column in part\ncolumn in")
        self.assertEqual(house.parts(), ["in", "b", "part", "column"])
        self.assertEqual([house.above(part) for part in house.parts()], ["all", "in", "all", "part"])
        self.assertEqual(house.columns(), ["in"])

    def test_texts_of_a_narrower_kind_are_read_by_their_signs(self):
        for kind in (helper.KeylessText, helper.OddText, helper.WaywardText):
            same_house(self, read_house(kind(LAND_TEXT)), helper.land())

    def test_each_reading_makes_a_house_of_its_own(self):
        first, second = read_house(LAND_TEXT), read_house(LAND_TEXT)
        self.assertIsNot(first, second)
        first.parts().clear()
        first.columns().append("more")
        first.beneath("north").clear()
        same_house(self, first, helper.land())
        same_house(self, second, helper.land())


class HouseRefused(unittest.TestCase):
    def refuse(self, thing):
        with self.assertRaises(NoText) as caught:
            read_house(thing)
        self.assertIs(caught.exception.__class__, NoText)

    def refuse_each(self, *texts):
        for text in texts:
            with self.subTest(ascii(text)):
                self.refuse(text)

    def test_no_text_of_any_kind(self):
        for thing in helper.no_texts() + [LAND_TEXT.encode(), [LAND_TEXT], (LAND_TEXT,), LAND_TEXT.split("\n"),
                                          helper.land(), House, helper.Sly(LAND_TEXT)]:
            self.refuse(thing)

    def test_no_signs_and_other_words(self):
        self.refuse_each("", " ", "\n", "\n\n", "a", "all", "part", "column", "part ", "column ", " part a", "house",
                         "row a", "part a column x", "part a ; column x", "PART a\nCOLUMN x", "Part a\ncolumn x",
                         "part a\nColumn x", "parts a\ncolumn x", "part a\ncolumns x", "*", "part a\nrow x")

    def test_rows_lacking(self):
        self.refuse_each("part a", "column x", "part a\npart b", "column x\ncolumn y")
        rows = LAND_TEXT.split("\n")
        # Without its row, whoever is beneath a part has nobody above; without cape and hill it is a house still.
        for number in (0, 1):
            self.refuse("\n".join(rows[:number] + rows[number + 1:]))
        self.refuse("\n".join(rows[:6]))
        self.refuse("\n".join(rows[6:]))

    def test_rows_in_another_order(self):
        self.refuse_each("column x\npart a", "part a\ncolumn x\npart b", "column x\npart a\ncolumn y",
                         "part a\ncolumn x\npart b in a", "part b in a\npart a\ncolumn x",
                         "part a\npart b in c\npart c in a\ncolumn x")
        self.refuse("\n".join(reversed(LAND_TEXT.split("\n"))))

    def test_rows_twice(self):
        self.refuse_each("part a\npart a\ncolumn x", "part a\ncolumn x\ncolumn x", "part a\npart b\npart a\ncolumn x",
                         "part a\npart b in a\npart b in a\ncolumn x", "part a\npart b\npart b in a\ncolumn x",
                         "part a\ncolumn x\ncolumn y\ncolumn x", "part a\ncolumn x\npart a\ncolumn x")
        rows = LAND_TEXT.split("\n")
        for number, row in enumerate(rows):
            self.refuse("\n".join(rows[:number] + [row] + rows[number:]))

    def test_a_word_more_or_less(self):
        self.refuse_each("part\ncolumn x", "part a\ncolumn", "part a b\ncolumn x", "part a in\ncolumn x",
                         "part a\npart b in\ncolumn x", "part a\npart b a\ncolumn x", "part a\npart b in a a\ncolumn x",
                         "part a\npart b in in a\ncolumn x", "part a\npart in a\ncolumn x", "part a\nb in a\ncolumn x",
                         "part a\ncolumn x y", "part a\ncolumn x in y", "part a\ncolumn x in a", "a\ncolumn x",
                         "part a\nx", "part in in\ncolumn x", "part in\npart b in\ncolumn x",
                         "part a\npart b of a\ncolumn x", "part a\npart b IN a\ncolumn x",
                         "part a\npart b part a\ncolumn x")

    def test_blanks_doubled_or_at_an_end(self):
        for blank in (" ", "\t", "\u00a0"):
            self.refuse_each("part a\npart  b in a\ncolumn x".replace("  ", " " + blank),
                             f"part a{blank}\ncolumn x", f"{blank}part a\ncolumn x", f"part a\n{blank}column x",
                             f"part a\ncolumn x{blank}", f"part a\ncolumn {blank}x", f"part {blank}a\ncolumn x",
                             f"part a\npart b{blank} in a\ncolumn x", f"part a\npart b in {blank}a\ncolumn x",
                             f"part a\npart b in a{blank}\ncolumn x")

    def test_other_signs_in_the_stead_of_blanks_and_line_feeds(self):
        for blank in BLANKS:
            self.refuse_each(f"part{blank}a\ncolumn x", f"part a\ncolumn{blank}x", f"part a{blank}column x",
                             f"part a{blank}\ncolumn x", f"part a\n{blank}column x", f"part a\ncolumn x{blank}")

    def test_line_feeds_more(self):
        self.refuse_each("\n" + LAND_TEXT, LAND_TEXT + "\n", "\n\n" + LAND_TEXT, LAND_TEXT + "\n\n",
                         LAND_TEXT.replace("\n", "\n\n"), LAND_TEXT.replace("\ncolumn old", "\n\ncolumn old"),
                         LAND_TEXT.replace("\n", "\r\n"), LAND_TEXT.replace("part hill", "part\nhill"))

    def test_names_that_are_none(self):
        for name in ("", "all", "A", "a1", "abcdefghi", "a-b", "1", "*", "\u00e4", "a,", "\uff41", "a:"):
            self.refuse_each(f"part {name}\ncolumn x", f"part b\npart {name} in b\ncolumn x", f"part b\ncolumn {name}",
                             f"part b\npart c in {name}\ncolumn x")

    def test_an_above_that_is_none_or_comes_behind(self):
        self.refuse_each("part a in b\ncolumn x", "part a in a\ncolumn x", "part a in b\npart b\ncolumn x",
                         "part a in x\ncolumn x", "part a\npart b in x\ncolumn x", "part a in b\npart b in a\ncolumn x")

    def test_a_part_right_beneath_all_is_written_without_it(self):
        self.refuse_each("part a in all\ncolumn x", "part a\npart b in all\ncolumn x",
                         LAND_TEXT.replace("part sea", "part sea in all"))

    def test_one_too_many(self):
        parts = ["part " + name for name in helper.names(25)]
        columns = ["column " + name for name in helper.names(9)]
        self.refuse("\n".join(parts + columns[:1]))
        self.refuse("\n".join(parts[:1] + columns))
        self.refuse("\n".join(parts + columns))
        self.assertEqual(len(read_house("\n".join(parts[:24] + columns[:8])).cells()), 192)

    def test_each_text_that_is_one_sign_off(self):
        for text in (LAND_TEXT, ODD_TEXT, "part a\ncolumn x", "part a\npart b\ncolumn x\ncolumn y"):
            for other in helper.one_sign_off(text, " \nabil1A:*"):
                if is_house_text(other):
                    self.assertEqual(show_house(read_house(other)), other)
                else:
                    self.refuse(other)

    def test_refused_is_refused_again(self):
        for turn in range(2):
            self.refuse("part a\ncolumn x\n")
            same_house(self, read_house("part a\ncolumn x"), helper.small_house())


class NumbersWritten(unittest.TestCase):
    def test_whole_tables(self):
        self.assertEqual(show_numbers(helper.land(), helper.land_table()), LAND_NUMBERS)
        self.assertEqual(show_numbers(helper.small_house(), filled(helper.small_house(), {("a", "x"): 7})),
                         "all: 7 = 7\na: 7 = 7")

    def test_none_told(self):
        self.assertEqual(show_numbers(helper.land(), {}), LAND_NOTHING)
        self.assertEqual(show_numbers(helper.small_house(), {}), "all: * = *\na: * = *")

    def test_some_told(self):
        house = House([("north", "all")], ["x", "y", "z"])
        numbers = {("north", "all"): 17, ("north", "x"): 12, ("north", "z"): 5}
        self.assertEqual(show_numbers(house, numbers), "all: * * * = *\nnorth: 12 * 5 = 17")

    def test_nought_is_told_and_sums_are_not_looked_at(self):
        numbers = {("b", "all"): 17, ("b", "x"): 40, ("b", "y"): 5, ("a", "y"): 12, ("all", "all"): 0, ("all", "x"): 3}
        self.assertEqual(show_numbers(pair(), numbers), PAIR_SOME)

    def test_numbers_of_many_figures(self):
        numbers = {("all", "x"): 10 ** 40 - 1, ("all", "all"): 10 ** 39, ("a", "x"): 0}
        self.assertEqual(show_numbers(helper.small_house(), numbers), f"all: {'9' * 40} = 1{'0' * 39}\na: 0 = *")

    def test_parts_and_columns_of_one_name(self):
        house = House([("x", "all"), ("y", "x")], ["y", "x"])
        self.assertEqual(show_numbers(house, {("x", "y"): 1, ("y", "x"): 2}), "all: * * = *\nx: 1 * = *\ny: * 2 = *")

    def test_dicts_of_a_narrower_kind_are_not_changed(self):
        for numbers in helper.dict_kinds({("a", "y"): 3}):
            self.assertEqual(show_numbers(pair(), numbers), "all: * * = *\na: * 3 = *\nb: * * = *")
            self.assertEqual(dict(numbers), {("a", "y"): 3})


class NumbersRead(unittest.TestCase):
    def read(self, house, text, numbers):
        told = read_numbers(house, text)
        self.assertEqual(list(told.items()), list(numbers.items()))
        self.assertIs(told.__class__, dict)

    def test_whole_tables(self):
        self.read(helper.land(), LAND_NUMBERS, helper.land_table())
        self.read(helper.small_house(), "all: 7 = 7\na: 7 = 7", filled(helper.small_house(), {("a", "x"): 7}))

    def test_none_told(self):
        self.read(helper.land(), LAND_NOTHING, {})
        self.read(helper.small_house(), "all: * = *\na: * = *", {})

    def test_some_told_and_sums_that_do_not_hold(self):
        self.read(pair(), PAIR_SOME, {("all", "x"): 3, ("all", "all"): 0, ("a", "y"): 12,
                                      ("b", "x"): 40, ("b", "y"): 5, ("b", "all"): 17})
        self.read(helper.small_house(), "all: 1 = 2\na: 3 = 4",
                  {("all", "x"): 1, ("all", "all"): 2, ("a", "x"): 3, ("a", "all"): 4})

    def test_numbers_of_one_to_forty_figures(self):
        for number in [0, 1, 9, 10, 99, 100, 10 ** 18, 10 ** 39, 10 ** 40 - 1, int("1234567890" * 4)]:
            self.read(helper.small_house(), f"all: {number} = *\na: * = {number}",
                      {("all", "x"): number, ("a", "all"): number})
            told = read_numbers(helper.small_house(), f"all: {number} = *\na: * = *")[("all", "x")]
            self.assertIs(told.__class__, int)

    def test_parts_called_like_the_words(self):
        text = "all: 1 * * = 2\nin: 3 * * = 4\npart: * 5 * = *\ncolumn: * * 6 = *\na: * * * = *\nrow: 0 0 0 = 0"
        self.read(helper.odd_words_house(), text, {
            ("all", "column"): 1, ("all", "all"): 2, ("in", "column"): 3, ("in", "all"): 4, ("part", "in"): 5,
            ("column", "part"): 6, ("row", "column"): 0, ("row", "in"): 0, ("row", "part"): 0, ("row", "all"): 0})

    def test_what_is_written_is_read_to_the_same(self):
        chance = random.Random(4)
        for house in helper.some_houses(60):
            places = house.places()
            whole = filled(house, helper.some_cells(chance, house))
            told = {place: chance.choice([0, 5, chance.randrange(10 ** 40)])
                    for place in helper.shuffled(chance, places)[:chance.randint(0, len(places))]}
            for numbers in (whole, {}, told, dict.fromkeys(places, 0)):
                text = show_numbers(house, numbers)
                self.read(house, text, {place: numbers[place] for place in places if place in numbers})
                self.assertEqual(show_numbers(house, read_numbers(house, text)), text)

    def test_texts_of_a_narrower_kind_are_read_by_their_signs(self):
        for kind in (helper.KeylessText, helper.OddText, helper.WaywardText):
            self.read(helper.land(), kind(LAND_NUMBERS), helper.land_table())


class NumbersRefused(unittest.TestCase):
    def refuse(self, thing, house=None):
        with self.assertRaises(NoText) as caught:
            read_numbers(house or pair(), thing)
        self.assertIs(caught.exception.__class__, NoText)

    def refuse_each(self, *texts):
        for text in texts:
            with self.subTest(ascii(text)):
                self.refuse(text)

    def refuse_rows(self, *rows):
        """In the stead of the row of a, behind that of all and ahead of that of b."""
        for row in rows:
            self.refuse_each(f"all: 1 2 = 3\n{row}\nb: * * = *")

    def test_the_rows_around_are_right(self):
        self.assertEqual(len(read_numbers(pair(), "all: 1 2 = 3\na: * 5 = *\nb: * * = *")), 4)

    def test_no_text_of_any_kind(self):
        for thing in helper.no_texts() + [PAIR_SOME.encode(), [PAIR_SOME], (PAIR_SOME,), PAIR_SOME.split("\n"), pair(),
                                          {("a", "x"): 3}, helper.Sly(PAIR_SOME)]:
            self.refuse(thing)
            self.refuse(thing, helper.small_house())

    def test_numbers_that_are_none(self):
        for word in ("1" * 41, "9" * 41, "1" + "0" * 40, "1" * 400, "0" * 40, "0" * 41, "00", "01", "007", "+1", "-1",
                     "-0", "+0", "- 1", "1.0", "1,0", "1_000", "0x1", "1e3", "a", "x", "**", "*1", "1*", "?", "-", "=",
                     "", " ", "\n", "1\n", "\t1", "1\t", "None", "True") + OTHER_FIGURES + BLANKS:
            self.refuse_rows(f"a: {word} * = *", f"a: * {word} = *", f"a: * * = {word}")
            self.refuse_each(f"all: {word} * = *\na: * * = *\nb: * * = *", f"all: * * = *\na: * * = *\nb: * * = {word}")

    def test_figures_of_others_beside_ours(self):
        for figure in OTHER_FIGURES:
            self.refuse_rows(f"a: 1{figure} * = *", f"a: {figure}1 * = *", f"a: * * = 12{figure}3")

    def test_rows_lacking_twice_or_out_of_their_order(self):
        first, second, third = PAIR_SOME.split("\n")
        for rows in ([], [first], [second], [first, second], [second, third], [first, third],
                     [first, first, second, third], [first, second, second, third], [first, second, third, third],
                     [first, second, second], [first, third, third], [first, third, second], [second, first, third],
                     [third, second, first], [second, third, first], [first, second, third, first]):
            self.refuse_each("\n".join(rows))

    def test_rows_of_nobody(self):
        for name in ("", "c", "x", "A", "ALL", "all", "aa", "b", "part a", "a b", "*", "row", "*:a"):
            self.refuse_rows(f"{name}: * * = *")
        for name in ("", "a", "b", "ALL", "alle", "x"):
            self.refuse_each(f"{name}: * * = *\na: * * = *\nb: * * = *")

    def test_a_number_too_many_or_too_few(self):
        self.refuse_rows("a:", "a: ", "a: *", "a: * *", "a: = *", "a: * = *", "a: * * =", "a: * * = ", "a: * * * = *",
                         "a: * * = * *", "a: * * = * = *", "a: * = * *", "a: = * * *", "a: * * * =", "a: 1 = 2",
                         "a: 1 2 3 = 4", "a: 1 2 = 3 4", "a", "")
        self.refuse(PAIR_SOME, House([("a", "all"), ("b", "all")], ["x"]))
        self.refuse(PAIR_SOME, House([("a", "all"), ("b", "all")], ["x", "y", "z"]))
        self.refuse(PAIR_SOME, House([("a", "all"), ("b", "all"), ("c", "all")], ["x", "y"]))
        self.refuse(PAIR_SOME, House([("b", "all"), ("a", "all")], ["x", "y"]))
        self.refuse(PAIR_SOME, House([("a", "all"), ("c", "all")], ["x", "y"]))

    def test_the_signs_between_lacking_or_doubled(self):
        self.refuse_rows("a: * * *", "a: * *  *", "a: * * == *", "a: * * = = *", "a: * *= *", "a: * * =*", "a: * *=*",
                         "a: * * : *", "a: * * - *", "a: = * * = *", "a * * = *", "a:: * * = *", "a : * * = *",
                         "a; * * = *", "a= * * = *", "a:: : * * = *", ": * * = *", "a:* * = *", "a:  * * = *",
                         "a: *  * = *", "a: * *  = *", "a: * * =  *", " a: * * = *", "a: * * = * ", "a: ** = *",
                         "a:\t* * = *", "a: * * =\t*", "a: *\u00a0* = *")

    def test_line_feeds_more(self):
        for text, house in ((PAIR_SOME, pair()), (LAND_NUMBERS, helper.land()), (LAND_NOTHING, helper.land())):
            for other in ("\n" + text, text + "\n", "\n\n" + text, text + "\n\n", text.replace("\n", "\n\n"),
                          text.replace("\n", "\n\n", 1), text.replace("\n", "\r\n"), text.replace("\n", " "),
                          text.replace("\n", "\r"), text.replace(": ", ":\n"), text.replace(" = ", "\n= ")):
                self.refuse(other, house)

    def test_no_signs_and_other_texts(self):
        self.refuse_each("", " ", "\n", "\n\n", "\n\n\n", "*", "0", LAND_NUMBERS, "part a\npart b\ncolumn x\ncolumn y")

    def test_each_text_that_is_one_sign_off(self):
        for text, house in ((PAIR_SOME, pair()), (LAND_NOTHING, helper.land()), (LAND_NUMBERS, helper.land()),
                            ("all: 0 = *\na: 10 = 100", helper.small_house())):
            for other in helper.one_sign_off(text, " \na:=*01-\u0663"):
                if is_numbers_text(house, other):
                    self.assertEqual(show_numbers(house, read_numbers(house, other)), other)
                else:
                    self.refuse(other, house)

    def test_refused_is_refused_again(self):
        for turn in range(2):
            self.refuse(PAIR_SOME + "\n")
            self.assertEqual(len(read_numbers(pair(), PAIR_SOME)), 6)


class KeptApart(unittest.TestCase):
    def test_what_is_handed_in_is_not_changed(self):
        house, numbers, lacking = helper.land(), helper.land_table(), defaultdict(int)
        show_numbers(house, numbers)
        show_numbers(house, lacking)
        show_house(house)
        read_numbers(house, LAND_NUMBERS)
        self.assertEqual(list(numbers.items()), list(helper.land_table().items()))
        self.assertEqual(len(lacking), 0)
        same_house(self, house, helper.land())

    def test_changing_what_was_told_or_handed_in_changes_nothing(self):
        house, numbers = helper.land(), helper.land_table()
        text = show_numbers(house, numbers)
        first, second = read_numbers(house, text), read_numbers(house, text)
        numbers.clear()
        first[("sea", "old")] = 5
        first.pop(("all", "all"))
        self.assertEqual(text, LAND_NUMBERS)
        self.assertEqual(second, helper.land_table())
        self.assertEqual(read_numbers(house, text), helper.land_table())
        same_house(self, house, helper.land())


if __name__ == "__main__":
    unittest.main()
