"""Point 9.1: whole tables rounded to a base."""

import itertools
import random
import unittest

from tallyveil.errors import NoBase
from tallyveil.houses import House
from tallyveil.rounding import rounded
from tallyveil.tables import filled, is_table
from tests import helper
from tests.helper import small_houses, square, square_table

GREAT = 10 ** 18
BASES = (1, 2, 3, 7, 10, 97, 1000, 10 ** 9 + 7, 10 ** 17 + 3, GREAT - 1, GREAT)


class Checked(helper.Checked):
    def round(self, house, table, base):
        """The rounded table, of which all that is promised holds."""
        before = list(table.items())
        told = rounded(house, table, base)
        self.assertEqual(list(table.items()), before)
        self.assertIs(told.__class__, dict)
        self.assertEqual(list(told), house.places())
        self.assertTrue(is_table(house, told))
        for place, number in told.items():
            self.assertIs(number.__class__, int)
            self.assertGreaterEqual(number, 0)
            self.assertEqual(number % base, 0, (place, base))
            self.assertLess(abs(number - table[place]), base, (place, base))
        return told

    def stay(self, house, table, base):
        self.assertEqual(self.round(house, table, base), table)


class ByHand(Checked):
    def test_one_number(self):
        house = helper.small_house()
        for count, base, either in ((7, 5, (5, 10)), (3, 5, (0, 5)), (5, 5, (5,)), (4, 2, (4,)), (0, 9, (0,)),
                                    (1, GREAT, (0, GREAT)), (GREAT, GREAT, (GREAT,)), (GREAT - 1, GREAT, (0, GREAT)),
                                    (GREAT, GREAT - 1, (GREAT - 1, 2 * (GREAT - 1)))):
            told = self.round(house, filled(house, {("a", "x"): count}), base)
            self.assertIn(told[("a", "x")], either)
            self.assertEqual(len(set(told.values())), 1)

    def test_ones_to_two(self):
        # All sums are multiples and stay; so one cell of each row and each column goes up.
        told = self.round(square(), square_table(1, 1, 1, 1), 2)
        self.assertIn(told, (square_table(2, 0, 0, 2), square_table(0, 2, 2, 0)))

    def test_each_cell_by_itself_would_break_the_sums(self):
        # Each cell lies nearer to 0, and their sum is the base.
        house = House([("a", "all")], ["x", "y", "z"])
        table = filled(house, dict.fromkeys(house.cells(), 4))
        told = self.round(house, table, 12)
        self.assertEqual(told[("a", "all")], 12)
        self.assertEqual(sorted(told[cell] for cell in house.cells()), [0, 0, 12])

    def test_what_is_a_multiple_stays(self):
        told = self.round(square(), square_table(10, 3, 0, 7), 10)
        self.assertEqual((told[("a", "x")], told[("b", "x")], told[("all", "x")]), (10, 0, 10))
        self.assertEqual((told[("all", "y")], told[("all", "all")]), (10, 20))

    def test_parts_under_parts(self):
        house, table = helper.land(), helper.land_table()
        for base in (2, 3, 5, 10, 100, 1000, 33333, 10 ** 6, 10 ** 8, 10 ** 12):
            self.round(house, table, base)
        told = self.round(house, table, 10 ** 12)
        self.assertLessEqual(set(told.values()), {0, 10 ** 12})


class Bases(Checked):
    def test_to_one_nothing_changes(self):
        for house in helper.some_houses(15):
            self.stay(house, filled(house, helper.some_cells(random.Random(70), house)), 1)

    def test_noughts_stay(self):
        for house in helper.some_houses(15):
            table = filled(house, dict.fromkeys(house.cells(), 0))
            for base in BASES:
                self.stay(house, table, base)

    def test_multiples_stay(self):
        chance = random.Random(71)
        for house in helper.some_houses(15):
            for base in BASES:
                counts = {cell: base * chance.choice([0, 1, 1, GREAT // base]) for cell in house.cells()}
                self.stay(house, filled(house, counts), base)

    def test_a_base_that_is_a_count_there_or_one_off(self):
        chance = random.Random(72)
        for house in helper.some_houses(15):
            table = filled(house, helper.some_cells(chance, house))
            counts = sorted({number for number in table.values() if 1 < number < GREAT})
            for count in helper.shuffled(chance, counts)[:8]:
                for base in (count - 1, count, count + 1):
                    self.round(house, table, base)

    def test_the_greatest_base(self):
        chance = random.Random(73)
        for house in helper.some_houses(15):
            told = self.round(house, filled(house, helper.some_cells(chance, house)), GREAT)
            self.assertLessEqual({told[cell] for cell in house.cells()}, {0, GREAT})

    def test_a_base_above_all_numbers(self):
        for house in helper.some_houses(15):
            table = filled(house, dict.fromkeys(house.cells(), 3))
            told = self.round(house, table, table[("all", "all")] + 1)
            self.assertLessEqual(set(told.values()), {0, table[("all", "all")] + 1})


class ManyTables(Checked):
    def test_every_small_table(self):
        for house in small_houses():
            most = 3 if len(house.cells()) <= 4 else 2
            for counts in itertools.product(range(most + 1), repeat=len(house.cells())):
                table = filled(house, dict(zip(house.cells(), counts)))
                for base in (2, 3, 4):
                    self.round(house, table, base)

    def test_counts_of_all_sizes(self):
        chance = random.Random(74)
        for house in helper.some_houses(30):
            for base in BASES:
                self.round(house, filled(house, helper.some_cells(chance, house)), base)

    def test_great_counts(self):
        chance = random.Random(75)
        houses = [House([("a", "all")], ["x"]), House([("a", "all")], helper.names(8)), helper.deepest_house(1),
                  helper.deepest_house(8), House([(name, "all") for name in helper.names(24)], ["x"])]
        for house in houses + helper.some_houses(12):
            for base in BASES:
                self.round(house, filled(house, {cell: chance.randint(0, GREAT) for cell in house.cells()}), base)

    def test_the_greatest_house(self):
        chance, house = random.Random(76), helper.greatest_house()
        for base in BASES + (123456789,):
            with helper.within(30):
                self.round(house, filled(house, {cell: chance.randint(0, GREAT) for cell in house.cells()}), base)
                self.round(house, filled(house, dict.fromkeys(house.cells(), GREAT)), base)

    def test_counts_beyond_the_bound(self):
        house = square()
        table = {place: number * 10 ** 30 + number for place, number in square_table(5, 6, 7, 8).items()}
        for base in BASES:
            self.round(house, table, base)


class Refused(Checked):
    TABLE = square_table(5, 6, 7, 8)

    def refuse_base(self, base):
        before = list(self.TABLE.items())
        self.refuse(NoBase, rounded, square(), self.TABLE, base)
        self.assertEqual(list(self.TABLE.items()), before)

    def test_out_of_bounds(self):
        for base in (0, -1, -2, -GREAT, GREAT + 1, 2 * GREAT, 10 ** 40, 10 ** 399, -10 ** 399):
            self.refuse_base(base)

    def test_truths_and_things_of_other_kinds(self):
        for thing in [True, False, "5", 5.0, [5], (5,), {5: 5}, "ten"] + helper.no_whole_numbers() + helper.no_texts():
            if thing.__class__ is not int:
                self.refuse_base(thing)

    def test_tables_that_would_stay_are_no_way_round(self):
        house = square()
        for base in (0, True, GREAT + 1, -5, None):
            self.refuse(NoBase, rounded, house, square_table(0, 0, 0, 0), base)

    def test_bounds_are_bases(self):
        self.round(square(), self.TABLE, 1)
        self.round(square(), self.TABLE, GREAT)

    def test_asked_again(self):
        for turn in range(2):
            self.refuse_base(0)
            self.round(square(), self.TABLE, 5)


class KeptApart(Checked):
    def test_a_table_in_another_order(self):
        chance, house, table = random.Random(77), helper.land(), helper.land_table()
        for base in (1, 7, 1000):
            mixed = dict(helper.shuffled(chance, table.items()))
            self.assertEqual(self.round(house, mixed, base), rounded(house, table, base))

    def test_tables_of_narrower_kinds_are_not_changed(self):
        for table in helper.dict_kinds(square_table(5, 6, 7, 8)):
            for base in (1, 5, GREAT):
                self.round(square(), table, base)
            self.assertEqual(table, square_table(5, 6, 7, 8))

    def test_what_is_told_is_the_askers_own(self):
        for base in (1, 5, 10):
            table = square_table(10, 20, 30, 40)
            first, second = rounded(square(), table, base), rounded(square(), table, base)
            first[("a", "x")] += 1
            first.pop(("b", "y"))
            self.assertEqual(second, square_table(10, 20, 30, 40))
            self.assertEqual(table, second)
            table.clear()
            self.assertEqual(second, square_table(10, 20, 30, 40))


if __name__ == "__main__":
    unittest.main()
