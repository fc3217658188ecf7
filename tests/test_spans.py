"""Points 5.1 and 5.2: the least and the greatest of a place, and tables and rings that have them."""

import itertools
import random
import unittest

from tallyveil.houses import House
from tallyveil.papers import at_least, at_most
from tallyveil.rings import changed
from tallyveil.spans import free_ring, greatest_table, least_table, span
from tallyveil.tables import filled, is_table
from tests import helper
from tests.helper import numbers_of, reached, small_houses, square, square_table


def sides(house):
    """The places that are no cells."""
    return [place for place in house.places() if place not in house.cells()]


def sums_closed_in(house, table, known, first):
    """All sums to which places that stay in lead, from the one to which the first step leads, without its place."""
    shut = [place for place in house.places() if place not in known]
    steps = [(place, 1) for place in shut] + [(place, -1) for place in shut if table[place] >= 1]
    return reached(house, steps, first)


class Checked(helper.Checked):
    def check_span(self, house, table, known, place):
        """All that is promised of the span of a place and of what goes with it; the span."""
        told = span(house, table, known, place)
        self.assertIs(told.__class__, tuple)
        least, greatest = told
        self.assertIs(least.__class__, int)
        self.check_low(house, table, known, place, least)
        if greatest is None:
            self.check_free(house, table, known, place)
        else:
            self.assertIs(greatest.__class__, int)
            self.check_high(house, table, known, place, greatest)
        return told

    def check_low(self, house, table, known, place, least):
        low = least_table(house, table, known, place)
        self.check_agreeing(house, table, known, low)
        self.assertEqual(low[place], least)
        if place not in known and least > 0:
            # No whole table that agrees has less, as sums show.
            numbers = numbers_of(house, table, known)
            self.assertEqual(at_least(house, numbers, place, sums_closed_in(house, low, known, (place, -1))), least)

    def check_high(self, house, table, known, place, greatest):
        high = greatest_table(house, table, known, place)
        self.check_agreeing(house, table, known, high)
        self.assertEqual(high[place], greatest)
        self.assertIsNone(free_ring(house, table, known, place))
        if place not in known:
            numbers = numbers_of(house, table, known)
            self.assertEqual(at_most(house, numbers, place, sums_closed_in(house, high, known, (place, 1))), greatest)

    def check_free(self, house, table, known, place):
        self.assertIsNone(greatest_table(house, table, known, place))
        ring = free_ring(house, table, known, place)
        self.check_ring(house, ring)
        self.assertIn((place, 1), ring)
        self.assertEqual({way for one, way in ring}, {1})
        self.assertFalse({one for one, way in ring} & set(known))
        for amount in (1, 10 ** 18, 10 ** 30):
            raised = changed(house, table, ring, amount)
            self.check_agreeing(house, table, known, raised)
            self.assertEqual(raised[place], table[place] + amount)


class ByHand(Checked):
    TABLE = (5, 6, 7, 8)

    def ask(self, known, place, told, counts=TABLE):
        self.assertEqual(self.check_span(square(), square_table(*counts), known, place), told)

    def test_nothing_known(self):
        for place in square().places():
            self.ask([], place, (0, None))

    def test_one_sum_known(self):
        # Of all 26: each other number lies from 0 to 26.
        for place in square().places():
            self.ask([("all", "all")], place, (26, 26) if place == ("all", "all") else (0, 26))
        # Of a's 11: its cells are bounded, nothing of b is.
        known = [("a", "all")]
        self.ask(known, ("a", "x"), (0, 11))
        self.ask(known, ("a", "y"), (0, 11))
        self.ask(known, ("b", "x"), (0, None))
        self.ask(known, ("all", "x"), (0, None))
        self.ask(known, ("all", "all"), (11, None))

    def test_one_cell_known(self):
        known = [("a", "x")]
        self.ask(known, ("a", "x"), (5, 5))
        for place in (("a", "all"), ("all", "x"), ("all", "all")):
            self.ask(known, place, (5, None))
        for place in (("a", "y"), ("b", "x"), ("b", "y"), ("all", "y"), ("b", "all")):
            self.ask(known, place, (0, None))

    def test_all_sums_known(self):
        known = sides(square())
        self.ask(known, ("a", "x"), (0, 11))
        self.ask(known, ("a", "y"), (0, 11))
        self.ask(known, ("b", "x"), (1, 12))
        self.ask(known, ("b", "y"), (3, 14))

    def test_a_cell_that_is_at_least_what_the_rest_leaves(self):
        # Of 20 in a, at most 5 are in y: so at least 15 are in x.
        known = [("a", "all"), ("all", "y")]
        self.ask(known, ("a", "x"), (15, 20), (18, 2, 1, 3))
        self.ask(known, ("a", "y"), (0, 5), (18, 2, 1, 3))
        self.ask(known, ("all", "x"), (15, None), (18, 2, 1, 3))
        self.ask(known, ("all", "all"), (20, None), (18, 2, 1, 3))
        self.ask(known, ("b", "x"), (0, None), (18, 2, 1, 3))

    def test_all_sums_and_one_cell_known(self):
        for cell in square().cells():
            for other in square().cells():
                number = square_table(*self.TABLE)[other]
                self.ask(sides(square()) + [cell], other, (number, number))

    def test_noughts_known(self):
        known = [("all", "x")]
        for place in (("a", "x"), ("b", "x")):
            self.ask(known, place, (0, 0), (0, 3, 0, 4))
        self.ask(known, ("a", "y"), (0, None), (0, 3, 0, 4))
        self.ask([("all", "all")], ("a", "x"), (0, 0), (0, 0, 0, 0))

    def test_the_least_house(self):
        house = helper.small_house()
        table = filled(house, {("a", "x"): 9})
        for place in house.places():
            self.assertEqual(self.check_span(house, table, [], place), (0, None))
            for known in house.places():
                self.assertEqual(self.check_span(house, table, [known], place), (9, 9))

    def test_parts_under_parts(self):
        house, table = helper.land(), helper.land_table()
        known = [("coast", "old"), ("north", "old"), ("all", "old")]
        self.assertEqual(self.check_span(house, table, known, ("hill", "old")), (300, 300))
        self.assertEqual(self.check_span(house, table, known, ("sea", "old")), (1, 1))
        self.assertEqual(self.check_span(house, table, known, ("bay", "old")), (0, 7050000))
        self.assertEqual(self.check_span(house, table, known, ("north", "all")), (7050300, None))
        self.assertEqual(self.check_span(house, table, known, ("bay", "all")), (0, None))
        self.assertEqual(self.check_span(house, table, known + [("bay", "all")], ("cape", "old")), (6400000, 7050000))

    def test_no_greatest_though_a_place_can_be_lowered_for_it(self):
        # Crosswise, b in x goes up by what b in y has; only a ring up to all has no end.
        known = [("a", "x"), ("a", "y"), ("all", "y")]
        self.ask(known, ("b", "x"), (0, None))
        self.ask(known + [("all", "all")], ("b", "x"), (7, 7))
        self.ask([("a", "all"), ("b", "all")], ("b", "x"), (0, 15))


class KnownPlaces(Checked):
    def test_of_a_known_place_both_are_its_number(self):
        chance = random.Random(20)
        for house in helper.some_houses(12):
            table = filled(house, helper.some_cells(chance, house))
            known = helper.shuffled(chance, house.places())[:1 + len(house.places()) // 2]
            for place in known[:15]:
                self.assertEqual(self.check_span(house, table, known, place), (table[place], table[place]))

    def test_all_known(self):
        for house in helper.some_houses(8):
            table = filled(house, helper.some_cells(random.Random(21), house))
            for place in house.places()[::5]:
                self.assertEqual(self.check_span(house, table, house.places(), place), (table[place], table[place]))

    def test_all_but_one_known(self):
        for house in helper.some_houses(8):
            table = filled(house, helper.some_cells(random.Random(22), house))
            for place in house.places()[::5]:
                known = [one for one in house.places() if one != place]
                self.assertEqual(self.check_span(house, table, known, place), (table[place], table[place]))

    def test_nothing_known(self):
        for house in helper.some_houses(8):
            table = filled(house, helper.some_cells(random.Random(23), house))
            for place in house.places()[::5]:
                self.assertEqual(self.check_span(house, table, [], place), (0, None))

    def test_all_cells_known(self):
        for house in helper.some_houses(8):
            table = filled(house, helper.some_cells(random.Random(24), house))
            for place in house.places()[::5]:
                self.assertEqual(self.check_span(house, table, house.cells(), place), (table[place], table[place]))

    def test_known_twice_and_in_any_order(self):
        chance = random.Random(25)
        for house in helper.some_houses(12):
            table = filled(house, helper.some_cells(chance, house))
            known = helper.shuffled(chance, house.places())[:len(house.places()) // 2]
            again = helper.shuffled(chance, known * 2 + known[:3])
            for place in helper.shuffled(chance, house.places())[:8]:
                self.assertEqual(self.check_span(house, table, again, place), span(house, table, known, place))

    def test_a_table_in_another_order(self):
        table = square_table(5, 6, 7, 8)
        known = sides(square())
        for mixed in (dict(reversed(table.items())), dict(sorted(table.items()))):
            self.assertEqual(self.check_span(square(), mixed, known, ("b", "x")), (1, 12))
            self.assertEqual(self.check_span(square(), mixed, known, ("all", "x")), (12, 12))

    def test_what_stays_in_is_not_looked_at(self):
        # Whole tables that agree have the same spans.
        chance = random.Random(26)
        for house in helper.some_houses(15):
            table = filled(house, helper.some_cells(chance, house))
            known = helper.some_known(chance, house)
            some = helper.shuffled(chance, house.places())[:6]
            other = least_table(house, table, known, some[0])
            for place in some:
                self.assertEqual(span(house, table, known, place), span(house, other, known, place))


class Searched(Checked):
    """Against all whole tables of small houses."""

    def compare(self, house, table, known):
        searched = helper.searched_spans(house, numbers_of(house, table, known))
        for place in house.places():
            self.assertEqual(self.check_span(house, table, known, place), searched[place], (table, known, place))
        return searched

    def test_some_known(self):
        chance = random.Random(27)
        ends = {"none": 0, "one": 0, "wide": 0, "raised": 0}
        for house in small_houses():
            for table, known in helper.some_searchable(chance, house, 25):
                for place, (least, greatest) in self.compare(house, table, known).items():
                    if place not in known:
                        ends["none" if greatest is None else "one" if least == greatest else "wide"] += 1
                        ends["raised"] += least > 0 and least != greatest
        # The inputs are such that each answer comes.
        self.assertTrue(all(count > 20 for count in ends.values()), ends)

    def test_every_choice_of_known_places(self):
        house = square()
        tables = [square_table(*counts) for counts in ((1, 0, 0, 2), (0, 3, 1, 1), (1, 1, 1, 1), (0, 0, 2, 0))]
        for number in range(512):
            known = [place for at, place in enumerate(house.places()) if number & (1 << at)]
            table = tables[number % 4]
            if helper.can_be_searched(house, numbers_of(house, table, known)):
                self.compare(house, table, known)


class GreatHouses(Checked):
    """Tables reach the ends, and sums show that none goes beyond."""

    def check_some(self, house, table, chance, known, count=6):
        for place in helper.shuffled(chance, house.places())[:count]:
            with helper.within(20):
                self.check_span(house, table, known, place)

    def test_counts_of_all_sizes(self):
        chance = random.Random(28)
        for house in helper.some_houses(40):
            table = filled(house, helper.some_cells(chance, house))
            for turn in range(2):
                self.check_some(house, table, chance, helper.some_known(chance, house))

    def test_great_counts(self):
        chance = random.Random(29)
        for house in helper.some_houses(40):
            table = filled(house, {cell: chance.randint(0, 10 ** 18) for cell in house.cells()})
            places = helper.shuffled(chance, house.places())
            for share in (1, 3, 5):
                self.check_some(house, table, chance, places[:len(places) * share // 10])

    def test_all_sums_known(self):
        chance = random.Random(30)
        names = helper.names(24)
        tree = [(name, "all" if at < 3 else names[(at - 3) // 3]) for at, name in enumerate(names)]
        for house in (helper.greatest_house(), helper.deepest_house(8), House(tree, helper.names(8))):
            for counts in ([10 ** 18], [0, 10 ** 18], [0, 0, 0, 1, 10 ** 18 - 1], range(10 ** 18)):
                table = filled(house, {cell: chance.choice(counts) for cell in house.cells()})
                self.check_some(house, table, chance, sides(house), 12)

    def test_every_place_of_the_greatest_house(self):
        chance = random.Random(31)
        house = helper.greatest_house()
        table = filled(house, {cell: chance.randint(0, 10 ** 18) for cell in house.cells()})
        known = helper.shuffled(chance, house.places())[:80]
        with helper.within(60):
            for place in house.places():
                self.check_span(house, table, known, place)

    def test_counts_beyond_the_bound(self):
        house = square()
        table = {place: number * 10 ** 300 for place, number in square_table(5, 6, 7, 8).items()}
        self.assertEqual(self.check_span(house, table, sides(house), ("b", "y")), (3 * 10 ** 300, 14 * 10 ** 300))

    def test_rings_by_way_of_a_small_count(self):
        # Two rings of four places do. Those of six places go to and fro by the lone 1 that rows b and c have in z, and
        # whoever takes these first needs as many as there are counts.
        great = 10 ** 18
        low = {("a", "x"): great, ("a", "y"): great, ("b", "w"): great, ("c", "w"): great, ("b", "z"): 1}
        high = {("a", "w"): 2 * great, ("b", "x"): great, ("c", "y"): great, ("b", "z"): 1}
        shut = list(low) + [("a", "w"), ("b", "x"), ("c", "y"), ("c", "z")]
        for rows in itertools.permutations("abc"):
            for columns in itertools.permutations("wxyz"):
                house = House([(row, "all") for row in rows], list(columns))
                known = [place for place in house.places() if place not in shut]
                for counts in (low, high):
                    table = helper.whole(house, counts)
                    with helper.within(20):
                        self.assertEqual(self.check_span(house, table, known, ("a", "w")), (0, 2 * great))


class KeptApart(Checked):
    ASKED = (span, least_table, greatest_table, free_ring)

    def test_what_is_handed_in_is_not_changed(self):
        house, table = helper.land(), helper.land_table()
        known = [("north", "old"), ("all", "all"), ("sea", "all"), ("north", "old"), ("bay", "sea")]
        before = list(known)
        for place in house.places():
            for ask in self.ASKED:
                ask(house, table, known, place)
        self.assertEqual(list(table.items()), list(helper.land_table().items()))
        self.assertEqual(known, before)
        self.assertEqual(house.places(), helper.land().places())

    def told(self, house, table, known):
        return [ask(house, table, known, place) for ask in self.ASKED for place in house.places()]

    def test_changing_what_was_told_changes_nothing(self):
        house, table, known = square(), square_table(5, 6, 7, 8), [("a", "all"), ("all", "y"), ("b", "y")]
        fresh = self.told(square(), square_table(5, 6, 7, 8), list(known))
        for number, thing in enumerate(fresh):
            if isinstance(thing, (dict, list)):
                earlier, told = self.told(house, table, known), self.told(house, table, known)
                told[number].clear()
                self.assertEqual(earlier, fresh)
                self.assertEqual(self.told(house, table, known), fresh)
        self.assertEqual(table, square_table(5, 6, 7, 8))

    def test_changing_what_was_handed_in_changes_nothing(self):
        house, table, known = square(), square_table(5, 6, 7, 8), [("a", "all"), ("all", "y"), ("b", "y")]
        fresh, told = self.told(house, dict(table), list(known)), self.told(house, table, known)
        table.clear()
        known.clear()
        self.assertEqual(told, fresh)

    def test_tables_of_known_places_are_new_ones(self):
        table = square_table(5, 6, 7, 8)
        for ask in (least_table, greatest_table):
            told = ask(square(), table, square().places(), ("a", "x"))
            told[("a", "x")] = 99
            self.assertEqual(table, square_table(5, 6, 7, 8))
            self.assertTrue(is_table(square(), table))


if __name__ == "__main__":
    unittest.main()
