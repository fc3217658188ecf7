"""Points 1.3 and 1.4: whole tables, and counts filled up to them."""

import itertools
import random
import unittest
from collections import defaultdict

from tallyveil.errors import NoTable
from tallyveil.houses import House
from tallyveil.tables import filled, is_table
from tests import helper


def is_within(house, part, upper):
    """Whether a part is the upper one, or beneath it in however many steps."""
    while part not in (upper, "all"):
        part = house.above(part)
    return part == upper


def reckoned(house, cells):
    """The whole table by its plain meaning: each number is the sum of all cells within its place."""
    return {
        (part, column): sum(count for (row, other), count in cells.items()
                            if is_within(house, row, part) and column in (other, "all"))
        for part, column in house.places()
    }


class Filled(unittest.TestCase):
    def test_the_least_house(self):
        for count in (0, 1, 10 ** 18 - 1, 10 ** 18):
            table = filled(helper.small_house(), {("a", "x"): count})
            self.assertEqual(list(table.items()), [
                (("all", "x"), count), (("all", "all"), count), (("a", "x"), count), (("a", "all"), count)])

    def test_parts_under_parts(self):
        table = filled(helper.land(), helper.land_cells())
        self.assertEqual(list(table.items()), list(helper.land_table().items()))
        self.assertIs(table.__class__, dict)

    def test_all_counts_nothing_and_all_counts_greatest(self):
        house = helper.land()
        self.assertEqual(set(filled(house, dict.fromkeys(house.cells(), 0)).values()), {0})
        table = filled(house, dict.fromkeys(house.cells(), 10 ** 18))
        self.assertEqual(table[("all", "all")], 8 * 10 ** 18)
        self.assertEqual(table[("coast", "sea")], 2 * 10 ** 18)
        self.assertEqual(table[("sea", "all")], 2 * 10 ** 18)

    def test_cells_in_any_order(self):
        house = House([("a", "all"), ("b", "all")], ["x", "y"])
        cells = {("a", "x"): 1, ("a", "y"): 20, ("b", "x"): 300, ("b", "y"): 4000}
        told = [(("all", "x"), 301), (("all", "y"), 4020), (("all", "all"), 4321),
                (("a", "x"), 1), (("a", "y"), 20), (("a", "all"), 21),
                (("b", "x"), 300), (("b", "y"), 4000), (("b", "all"), 4300)]
        for order in itertools.permutations(cells):
            self.assertEqual(list(filled(house, {cell: cells[cell] for cell in order}).items()), told)

    def test_many_houses(self):
        chance = random.Random(2)
        for house in helper.some_houses(60):
            cells = helper.some_cells(chance, house)
            table = filled(house, cells)
            self.assertEqual(list(table.items()), list(reckoned(house, cells).items()))
            self.assertIs(is_table(house, table), True)

    def test_dicts_of_a_narrower_kind(self):
        for cells in helper.dict_kinds(helper.land_cells()):
            table = filled(helper.land(), cells)
            self.assertEqual(table, helper.land_table())
            self.assertIs(table.__class__, dict)

    def test_places_of_a_narrower_kind_are_told_plainly(self):
        table = filled(helper.small_house(), {helper.Pair("a", "x"): 5})
        self.assertEqual(table[("a", "x")], 5)
        for place in table:
            self.assertIs(place.__class__, tuple)


class FilledRefused(unittest.TestCase):
    def refuse(self, house, cells):
        with self.assertRaises(NoTable) as caught:
            filled(house, cells)
        self.assertIs(caught.exception.__class__, NoTable)

    def refuse_with(self, place, number):
        cells = helper.land_cells()
        cells[place] = number
        self.refuse(helper.land(), cells)

    def test_a_cell_lacks(self):
        for cell in helper.land_cells():
            cells = helper.land_cells()
            del cells[cell]
            self.refuse(helper.land(), cells)
            self.refuse(helper.land(), defaultdict(int, cells))
        self.refuse(helper.land(), {})
        self.refuse(helper.small_house(), {})

    def test_a_place_too_many(self):
        places = [place for place in helper.land_table() if place not in helper.land_cells()]
        for place in places + [("x", "old"), ("sea", "x"), ("sea", "old", "old"), ("sea",), (), "sea", None, 0,
                               ("old", "sea"), ("sea", None), ("north", "north"), frozenset({"sea", "old"})]:
            self.refuse_with(place, helper.land_table().get(place, 0))

    def test_a_place_in_a_cells_stead(self):
        cells = helper.land_cells()
        del cells[("sea", "old")]
        for place in [("sea", "all"), ("north", "old"), ("all", "all"), ("old", "sea"), "sea", None, 1,
                      ("sea", "old", "all"), ("x", "old"), helper.Sly(("sea", "old"))]:
            self.refuse(helper.land(), {**cells, place: 1})
            self.refuse(helper.land(), {place: 1, **cells})

    def test_a_whole_table_is_not_counts_for_the_cells(self):
        self.refuse(helper.land(), helper.land_table())
        self.refuse(helper.small_house(), filled(helper.small_house(), {("a", "x"): 1}))

    def test_counts_out_of_bounds(self):
        for cell in helper.land_cells():
            for number in (-1, -10 ** 18, 10 ** 18 + 1, 10 ** 40, -10 ** 399, 10 ** 399):
                self.refuse_with(cell, number)

    def test_counts_that_are_no_whole_numbers(self):
        for cell in helper.land_cells():
            for thing in helper.no_whole_numbers():
                self.refuse_with(cell, thing)

    def test_what_is_no_dict(self):
        for thing in helper.no_dicts() + [list(helper.land_cells()), list(helper.land_cells().items())]:
            self.refuse(helper.land(), thing)
            self.refuse(helper.small_house(), thing)

    def test_refused_is_refused_again_and_changes_nothing(self):
        house, cells = helper.land(), helper.land_cells()
        cells[("cape", "sea")] = -1
        before = list(cells.items())
        self.refuse(house, cells)
        self.refuse(house, cells)
        self.assertEqual(list(cells.items()), before)
        cells[("cape", "sea")] = 80000000
        self.assertEqual(filled(house, cells), helper.land_table())

    def test_a_dict_that_makes_up_what_lacks_is_not_changed(self):
        cells = defaultdict(int, helper.land_cells())
        del cells[("hill", "sea")]
        cells["other"] = 1
        before = list(cells.items())
        self.refuse(helper.land(), cells)
        self.assertEqual(list(cells.items()), before)


class IsTable(unittest.TestCase):
    def ask(self, numbers, answer, house=None):
        self.assertIs(is_table(house or helper.land(), numbers), answer)

    def test_whole_tables_in_any_order(self):
        table = helper.land_table()
        self.ask(table, True)
        self.ask(dict(reversed(table.items())), True)
        self.ask(dict(sorted(table.items())), True)
        mixed = list(table.items())
        chance = random.Random(3)
        for turn in range(20):
            chance.shuffle(mixed)
            self.ask(dict(mixed), True)

    def test_tables_of_nothing_and_of_many_figures(self):
        for count in (0, 1, 10 ** 18 + 1, 10 ** 390):
            self.ask(dict.fromkeys([("all", "x"), ("all", "all"), ("a", "x"), ("a", "all")], count), True,
                     helper.small_house())
        self.ask(dict.fromkeys(helper.land_table(), 0), True)

    def test_each_number_changed_by_itself(self):
        for house in helper.some_houses(12):
            table = filled(house, dict.fromkeys(house.cells(), 3))
            for place in table:
                for step in (1, -1):
                    self.ask({**table, place: table[place] + step}, False, house)
            self.ask(table, True, house)

    def test_sums_down_broken_alone(self):
        house = House([("a", "all"), ("b", "a"), ("c", "a")], ["x", "y"])
        table = filled(house, {("b", "x"): 5, ("b", "y"): 5, ("c", "x"): 5, ("c", "y"): 5})
        self.ask(table, True, house)
        # All sums across hold, and so do those down of all but one part.
        moved = {("all", "x"): 11, ("all", "y"): 9, ("a", "x"): 11, ("a", "y"): 9}
        self.ask({**table, **moved}, False, house)
        self.ask({**table, ("all", "x"): 11, ("all", "y"): 9}, False, house)

    def test_sums_down_in_all_broken_alone(self):
        house = House([("a", "all"), ("b", "a"), ("c", "a")], ["x"])
        table = filled(house, {("b", "x"): 5, ("c", "x"): 6})
        self.ask({**table, ("a", "all"): 12}, False, house)

    def test_sums_across_a_row_broken_alone(self):
        house = House([("a", "all"), ("b", "all")], ["x", "y"])
        table = filled(house, {("a", "x"): 5, ("a", "y"): 5, ("b", "x"): 5, ("b", "y"): 5})
        # All sums down hold, and so does that across all.
        self.ask({**table, ("a", "all"): 11, ("b", "all"): 9}, False, house)

    def test_the_number_of_all_and_all_broken(self):
        house = House([("a", "all"), ("b", "all")], ["x", "y"])
        table = filled(house, {("a", "x"): 5, ("a", "y"): 5, ("b", "x"): 5, ("b", "y"): 5})
        for number in (19, 21, 0):
            self.ask({**table, ("all", "all"): number}, False, house)

    def test_one_row_and_one_column_still_have_sums(self):
        places = [("all", "x"), ("all", "all"), ("a", "x"), ("a", "all")]
        for numbers in itertools.product((0, 1), repeat=4):
            self.ask(dict(zip(places, numbers)), len(set(numbers)) == 1, helper.small_house())

    def test_a_place_lacks(self):
        for place in helper.land_table():
            table = dict.fromkeys(helper.land_table(), 0)
            del table[place]
            self.ask(table, False)
            self.ask(defaultdict(int, table), False)
            self.ask({**table, (): 0}, False)
            self.ask({**table, "all": 0}, False)
            self.ask({**table, helper.Sly(place): 0}, False)
        self.ask({}, False)
        self.ask(helper.land_cells(), False)

    def test_a_place_too_many(self):
        for place in [("x", "old"), ("sea", "x"), ("sea", "old", "old"), ("sea",), (), "sea", None, 0, ("old", "sea")]:
            self.ask({**helper.land_table(), place: 0}, False)
        self.ask(helper.land_table(), False, helper.small_house())

    def test_numbers_below_nought(self):
        house = House([("a", "all"), ("b", "all")], ["x", "y"])
        for cells in ((-1, 1, 1, -1), (-1, 5, 5, 5), (5, 5, 5, -1), (-1, -1, -1, -1)):
            first, second, third, fourth = cells
            table = {
                ("all", "x"): first + third, ("all", "y"): second + fourth, ("all", "all"): sum(cells),
                ("a", "x"): first, ("a", "y"): second, ("a", "all"): first + second,
                ("b", "x"): third, ("b", "y"): fourth, ("b", "all"): third + fourth,
            }
            self.ask(table, False, house)

    def test_other_things_in_a_numbers_stead(self):
        for place in helper.land_table():
            for thing in helper.no_whole_numbers():
                self.ask({**helper.land_table(), place: thing}, False)

    def test_truths_do_not_stand_for_numbers(self):
        for truth in (True, False):
            places = [("all", "x"), ("all", "all"), ("a", "x"), ("a", "all")]
            self.ask(dict.fromkeys(places, truth), False, helper.small_house())
            for place in places:
                self.ask({**dict.fromkeys(places, int(truth)), place: truth}, False, helper.small_house())

    def test_what_is_no_dict(self):
        for thing in helper.no_dicts() + [list(helper.land_table()), list(helper.land_table().items())]:
            self.ask(thing, False)

    def test_dicts_of_a_narrower_kind(self):
        for table in helper.dict_kinds(helper.land_table()):
            self.ask(table, True)


class KeptApart(unittest.TestCase):
    def test_what_is_handed_in_is_not_changed(self):
        house, cells, table = helper.land(), helper.land_cells(), helper.land_table()
        filled(house, cells)
        is_table(house, table)
        self.assertEqual(list(cells.items()), list(helper.land_cells().items()))
        self.assertEqual(list(table.items()), list(helper.land_table().items()))
        lacking = defaultdict(int)
        is_table(house, lacking)
        self.assertEqual(len(lacking), 0)
        lacking.update(dict.fromkeys(range(len(table)), 0))
        is_table(house, lacking)
        self.assertEqual(list(lacking), list(range(len(table))))
        lacking = defaultdict(int, dict.fromkeys([(number,) for number in range(len(table))], 0))
        is_table(house, lacking)
        self.assertEqual(list(lacking), [(number,) for number in range(len(table))])

    def test_changing_what_was_handed_in_changes_nothing(self):
        house, cells = helper.land(), helper.land_cells()
        table = filled(house, cells)
        cells[("sea", "old")] = 5
        del cells[("bay", "old")]
        self.assertEqual(table, helper.land_table())
        self.assertEqual(filled(house, helper.land_cells()), helper.land_table())

    def test_changing_what_was_told_changes_nothing(self):
        house, cells = helper.land(), helper.land_cells()
        first, second = filled(house, cells), filled(house, cells)
        first[("sea", "old")] = 5
        first["more"] = 0
        del first[("all", "all")]
        self.assertEqual(second, helper.land_table())
        self.assertEqual(cells, helper.land_cells())
        self.assertEqual(filled(house, cells), helper.land_table())
        self.assertEqual(house.places(), list(helper.land_table()))


if __name__ == "__main__":
    unittest.main()
