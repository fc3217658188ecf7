"""Points 4.1 and 4.2: tables changed by rings, and rings through a place."""

import itertools
import random
import unittest

from tallyveil.errors import NoPlace, TooFar
from tallyveil.houses import House
from tallyveil.rings import changed, ring_through
from tallyveil.sums import added
from tallyveil.tables import filled, is_table
from tests import helper
from tests.helper import every_ring, reached, small_houses, square, square_table

# Two rows and two columns, moved crosswise; and all of one cell's line, up to all.
CROSS = [(("a", "x"), 1), (("a", "y"), -1), (("b", "y"), 1), (("b", "x"), -1)]
LINE = [(("a", "x"), 1), (("all", "x"), 1), (("all", "all"), 1), (("a", "all"), 1)]


def is_free(ring):
    return all(way == 1 for place, way in ring)


def can_change(table, ring):
    return all(way == 1 or table[place] >= 1 for place, way in ring)


class Checked(helper.Checked):
    def check_answer(self, house, table, opened, place, way):
        """All that is promised of a ring that was told; the ring."""
        ring = ring_through(house, table, opened, place, way)
        if ring is not None:
            self.check_ring(house, ring)
            self.assertEqual(dict(ring)[place], way)
            self.assertLessEqual({one for one, step in ring}, set(opened))
            self.assertTrue(can_change(table, ring))
            if way == -1:
                self.assertFalse(is_free(ring))
        return ring


class Changed(Checked):
    def change(self, house, table, ring, amount, told):
        new = changed(house, table, ring, amount)
        self.assertEqual(list(new.items()), [(place, told[place]) for place in house.places()])
        self.assertIs(new.__class__, dict)
        self.assertTrue(is_table(house, new))

    def test_by_hand(self):
        table = square_table(5, 6, 7, 8)
        self.change(square(), table, CROSS, 0, square_table(5, 6, 7, 8))
        self.change(square(), table, CROSS, 1, square_table(6, 5, 6, 9))
        self.change(square(), table, CROSS, 6, square_table(11, 0, 1, 14))
        self.change(square(), table, LINE, 1, square_table(6, 6, 7, 8))
        self.change(square(), table, LINE, 1000, square_table(1005, 6, 7, 8))

    def test_the_order_of_the_ring_is_nothing(self):
        for ring in itertools.permutations(CROSS):
            self.change(square(), square_table(5, 6, 7, 8), list(ring), 4, square_table(9, 2, 3, 12))

    def test_a_table_in_another_order_is_told_in_the_order_of_places(self):
        table = square_table(5, 6, 7, 8)
        for mixed in (dict(reversed(table.items())), dict(sorted(table.items()))):
            self.change(square(), mixed, CROSS, 1, square_table(6, 5, 6, 9))

    def test_amounts_of_many_figures(self):
        house = square()
        for amount in (10 ** 18, 10 ** 18 + 1, 10 ** 40 - 1, 10 ** 300):
            table = {place: 0 for place in house.places()}
            new = changed(house, table, LINE, amount)
            self.assertEqual(new, {place: amount if place in dict(LINE) else 0 for place in table})
            self.assertTrue(is_table(house, new))
            self.assertEqual(changed(house, new, [(place, -way) for place, way in LINE], amount), table)

    def test_no_places(self):
        for amount in (0, 1, 10 ** 30):
            self.change(square(), square_table(0, 1, 2, 3), [], amount, square_table(0, 1, 2, 3))

    def test_places_with_nought_are_raised(self):
        self.change(square(), square_table(0, 3, 3, 0), CROSS, 3, square_table(3, 0, 0, 3))

    def test_each_ring_of_small_houses(self):
        chance = random.Random(8)
        for house in small_houses():
            rings = every_ring(house)
            for counts in chance.sample(rings, min(40, len(rings))):
                ring = helper.shuffled(chance, counts.items())
                self.check_ring(house, ring)
                table = filled(house, {cell: chance.randint(0, 3) for cell in house.cells()})
                for amount in range(5):
                    told = {place: table[place] + amount * counts.get(place, 0) for place in table}
                    if min(told.values()) >= 0:
                        self.change(house, table, ring, amount, told)
                    else:
                        self.assertRaises(TooFar, changed, house, table, ring, amount)

    def test_too_far(self):
        table = square_table(5, 6, 7, 8)
        for amount in (7, 8, 10 ** 18, 10 ** 300):
            with self.assertRaises(TooFar) as caught:
                changed(square(), table, CROSS, amount)
            self.assertIs(caught.exception.__class__, TooFar)
        self.assertRaises(TooFar, changed, square(), square_table(0, 0, 1, 0), CROSS, 1)
        self.assertRaises(TooFar, changed, square(), square_table(0, 1, 0, 0), CROSS, 1)

    def test_just_nought_is_not_too_far(self):
        self.change(square(), square_table(0, 6, 6, 0), CROSS, 6, square_table(6, 0, 0, 6))
        self.change(square(), square_table(0, 0, 0, 0), CROSS, 0, square_table(0, 0, 0, 0))
        back = [(place, -way) for place, way in LINE]
        self.change(square(), square_table(9, 0, 0, 0), back, 9, square_table(0, 0, 0, 0))
        self.assertRaises(TooFar, changed, square(), square_table(9, 0, 0, 0), back, 10)

    def test_refused_changes_nothing(self):
        table, ring = square_table(5, 6, 7, 8), list(CROSS)
        for turn in range(2):
            self.assertRaises(TooFar, changed, square(), table, ring, 7)
            self.assertEqual(list(table.items()), list(square_table(5, 6, 7, 8).items()))
            self.assertEqual(ring, CROSS)
        self.change(square(), table, ring, 1, square_table(6, 5, 6, 9))


class RingOfSmallHouses(Checked):
    """Against all rings there are."""

    def compare(self, house, rings, table, opened, place, way):
        fitting = [ring for ring in rings if ring.get(place) == way and set(ring) <= set(opened)]
        free = [ring for ring in fitting if is_free(ring.items())]
        able = [ring for ring in fitting if can_change(table, ring.items())]
        ring = self.check_answer(house, table, opened, place, way)
        self.assertEqual(ring is None, not able, (table, opened, place, way))
        if free:
            self.assertTrue(is_free(ring), (table, opened, place, way))

    def test_among_all_places(self):
        chance = random.Random(9)
        for house in small_houses():
            rings = every_ring(house)
            for most in (0, 1, 3):
                table = filled(house, {cell: chance.randint(0, most) for cell in house.cells()})
                for place in house.places():
                    for way in (1, -1):
                        self.compare(house, rings, table, house.places(), place, way)

    def test_among_some_places(self):
        chance = random.Random(10)
        for house in small_houses():
            rings = every_ring(house)
            for turn in range(30):
                table = filled(house, {cell: chance.choice([0, 0, 1, 2]) for cell in house.cells()})
                places = helper.shuffled(chance, house.places())
                opened = places[:chance.randint(1, len(places))]
                for place in opened:
                    for way in (1, -1):
                        self.compare(house, rings, table, opened, place, way)

    def test_among_every_choice_of_places(self):
        house = square()
        rings = every_ring(house)
        tables = [square_table(0, 0, 0, 0), square_table(1, 0, 0, 2), square_table(0, 3, 0, 1), square_table(2, 2, 2, 2)]
        for number in range(1, 512):
            opened = [place for at, place in enumerate(house.places()) if number & (1 << at)]
            table = tables[number % 4]
            for place in opened:
                for way in (1, -1):
                    self.compare(house, rings, table, opened, place, way)


class RingThrough(Checked):
    def test_by_hand(self):
        table = square_table(5, 6, 7, 8)
        cells = square().cells()
        self.assertEqual(set(ring_through(square(), table, cells, ("a", "x"), 1)), set(CROSS))
        self.assertEqual(set(ring_through(square(), table, cells, ("a", "x"), -1)),
                         {(place, -way) for place, way in CROSS})
        self.assertEqual(set(ring_through(square(), table, list(dict(LINE)), ("all", "all"), 1)), set(LINE))
        self.assertEqual(set(ring_through(square(), table, list(dict(LINE)), ("all", "all"), -1)),
                         {(place, -way) for place, way in LINE})

    def test_a_free_ring_goes_ahead_of_others(self):
        table = square_table(5, 6, 7, 8)
        ring = ring_through(square(), table, square().cells() + list(dict(LINE)), ("a", "x"), 1)
        self.assertTrue(is_free(ring))
        for place in square().places():
            self.assertTrue(is_free(ring_through(square(), table, square().places(), place, 1)))

    def test_a_free_ring_that_is_longer_than_others(self):
        # A free one goes up to all and down again; crosswise in the two rows, 4 places would do.
        names = helper.names(22)
        house = House(list(zip(names, ["all"] + names)) + [("y", names[-1]), ("z", names[-1])], ["x", "y"])
        table = filled(house, dict.fromkeys(house.cells(), 5))
        for cell in house.cells():
            self.assertEqual(len(self.check_answer(house, table, house.cells(), cell, 1)), 4)
            ring = self.check_answer(house, table, house.places(), cell, 1)
            self.assertEqual((is_free(ring), len(ring)), (True, 48))

    def test_lowered_only_where_there_is_something(self):
        cells = square().cells()
        for table, way, there in ((square_table(0, 1, 1, 0), 1, True), (square_table(0, 1, 0, 9), 1, False),
                                  (square_table(9, 0, 1, 9), 1, False), (square_table(1, 0, 0, 1), -1, True),
                                  (square_table(0, 1, 1, 1), -1, False), (square_table(1, 9, 9, 0), -1, False)):
            ring = self.check_answer(square(), table, cells, ("a", "x"), way)
            self.assertEqual(ring is not None, there)

    def test_among_the_place_alone(self):
        for house in helper.some_houses(10):
            table = filled(house, dict.fromkeys(house.cells(), 3))
            for place in house.places():
                for way in (1, -1):
                    self.assertIsNone(ring_through(house, table, [place], place, way))
                    self.assertIsNone(ring_through(house, table, [place, place], place, way))

    def test_places_twice_are_as_if_once(self):
        chance = random.Random(11)
        for house in (square(), helper.land(), helper.greatest_house()):
            table = filled(house, helper.some_cells(chance, house))
            some = helper.shuffled(chance, house.places())[:len(house.places()) * 2 // 3]
            for place in some[:12]:
                for way in (1, -1):
                    once = ring_through(house, table, some, place, way)
                    twice = self.check_answer(house, table, some + some[::-1] + [place], place, way)
                    self.assertEqual(once is None, twice is None)
                    if once is not None:
                        self.assertEqual(is_free(once), is_free(twice))

    def test_places_of_a_narrower_kind(self):
        house, table = square(), square_table(5, 6, 7, 8)
        ring = ring_through(house, table, [helper.Pair(*cell) for cell in house.cells()], helper.Pair("a", "x"), 1)
        self.assertEqual(set(ring), set(CROSS))
        self.check_ring(house, ring)
        for kind in (helper.KeylessText, helper.OddText, helper.WaywardText):
            ring = ring_through(house, table, house.cells(), (kind("a"), kind("x")), 1)
            self.assertEqual(dict(ring), dict(CROSS))
            self.check_ring(house, ring)

    def test_the_ring_can_be_changed_by_it(self):
        chance = random.Random(12)
        for house in helper.some_houses(15):
            table = filled(house, helper.some_cells(chance, house))
            for place in helper.shuffled(chance, house.places())[:20]:
                for way in (1, -1):
                    ring = self.check_answer(house, table, house.places(), place, way)
                    if ring is not None:
                        new = changed(house, table, ring, 1)
                        self.assertTrue(is_table(house, new))
                        self.assertEqual(new[place], table[place] + way)


class RingOfGreatHouses(Checked):
    """None is told only where sums show that there is none, and a free ring wherever there is one."""

    def shown_to_be_none(self, house, steps, first):
        """Whether sums show that no ring takes the first step and others of these steps alone."""
        if first not in steps:
            return True
        counts = added(house, reached(house, steps, first))
        place, way = first
        if place not in counts:
            return False
        # In a ring, all changes multiplied by these counts come to 0: some other step weighs the first one up. None can.
        self.assertEqual(counts[place], -way)
        weights = [counts.get(one, 0) * step for one, step in steps if one != place]
        self.assertTrue(all(weight <= 0 for weight in weights))
        return True

    def compare(self, house, table, opened, place, way):
        ring = self.check_answer(house, table, opened, place, way)
        raising = [(one, 1) for one in opened]
        every = raising + [(one, -1) for one in opened if table[one] >= 1]
        if ring is None:
            self.assertTrue(self.shown_to_be_none(house, every, (place, way)))
        elif not is_free(ring):
            self.assertTrue(self.shown_to_be_none(house, raising, (place, way)))
        return ring

    def compare_some(self, house, table, chance, turns):
        """How many of each answer came."""
        tally = {"free": 0, "other": 0, "none": 0}
        for turn in range(turns):
            places = helper.shuffled(chance, house.places())
            opened = places[:max(1, len(places) * chance.randint(5, 95) // 100)]
            for place in opened[:5]:
                for way in (1, -1):
                    ring = self.compare(house, table, opened, place, way)
                    tally["none" if ring is None else "free" if is_free(ring) else "other"] += 1
        return tally

    def test_great_counts(self):
        chance = random.Random(13)
        for house in helper.some_houses(25):
            table = filled(house, {cell: chance.randint(0, 10 ** 18) for cell in house.cells()})
            self.compare_some(house, table, chance, 5)

    def test_tables_with_many_noughts(self):
        chance = random.Random(14)
        tally = {"free": 0, "other": 0, "none": 0}
        for house in helper.some_houses(25):
            table = filled(house, {cell: chance.choice([0, 0, 0, 0, 1, 10 ** 18]) for cell in house.cells()})
            for answer, count in self.compare_some(house, table, chance, 5).items():
                tally[answer] += count
        # The inputs are such that each answer comes.
        self.assertTrue(all(count > 20 for count in tally.values()), tally)

    def test_the_greatest_house_among_cells(self):
        chance = random.Random(15)
        house = helper.greatest_house()
        cells = house.cells()
        full = filled(house, dict.fromkeys(cells, 10 ** 18))
        nothing = filled(house, dict.fromkeys(cells, 0))
        for place in helper.shuffled(chance, cells)[:12]:
            for way in (1, -1):
                self.assertEqual(len(self.compare(house, full, cells, place, way)), 4)
                self.assertIsNone(self.compare(house, nothing, cells, place, way))
                self.assertIsNone(self.compare(house, nothing, house.places(), place, -1))
            self.assertTrue(is_free(self.compare(house, nothing, house.places(), place, 1)))

    def test_a_long_ring_that_is_the_only_one(self):
        # Each row may change in its own column and in the one beside it, round and round.
        columns = helper.names(8)
        house = House([(name, "all") for name in helper.names(8)], columns)
        opened = [(row, columns[(at + step) % 8]) for at, row in enumerate(house.rows()) for step in (0, 1)]
        table = filled(house, dict.fromkeys(house.cells(), 1))
        for place in opened:
            for way in (1, -1):
                ring = self.compare(house, table, opened, place, way)
                self.assertEqual({one for one, step in ring}, set(opened))
        # Raised and lowered are these by turns, so where one has nothing half of them can't be lowered.
        table = filled(house, {**dict.fromkeys(house.cells(), 1), opened[4]: 0})
        for at, place in enumerate(opened):
            lowers_it = -1 if at % 2 == 0 else 1
            self.assertIsNone(self.compare(house, table, opened, place, lowers_it))
            self.assertIsNotNone(self.compare(house, table, opened, place, -lowers_it))

    def test_the_deepest_house(self):
        house = helper.deepest_house(8)
        for count in (0, 1, 10 ** 18):
            table = filled(house, dict.fromkeys(house.cells(), count))
            for place in house.places()[::7]:
                self.assertTrue(is_free(self.compare(house, table, house.places(), place, 1)))
                self.assertEqual(self.compare(house, table, house.places(), place, -1) is None, count == 0)


class Refused(Checked):
    def refuse(self, place, way, opened=None):
        table, opened = square_table(5, 6, 7, 8), square().cells() if opened is None else opened
        before = list(opened)
        with self.assertRaises(NoPlace) as caught:
            ring_through(square(), table, opened, place, way)
        self.assertIs(caught.exception.__class__, NoPlace)
        self.assertEqual(list(table.items()), list(square_table(5, 6, 7, 8).items()))
        self.assertEqual(opened, before)

    def test_ways_that_are_none(self):
        for way in [0, 2, -2, 3, 10 ** 30, -10 ** 30, True, False, 1.0, -1.0, "-1", "up"] + helper.no_whole_numbers():
            self.refuse(("a", "x"), way)
            self.refuse(("a", "all"), way)

    def test_places_that_may_not_change(self):
        for place in square().places():
            for way in (1, -1):
                self.refuse(place, way, [])
                self.refuse(place, way, [one for one in square().places() if one != place])
        self.refuse(("a", "all"), 1)
        self.refuse(("all", "all"), -1)

    def test_things_that_are_no_place(self):
        things = [("a",), ("a", "x", "x"), ("x", "a"), ("a", "z"), ("c", "x"), ("", ""), ("a", None), (None, "x"),
                  ("a", 1), (helper.Sly("a"), "x"), ("a", helper.Sly("x")), helper.Sly(("a", "x")), "ax", "a x", 1, True,
                  ["a", "x"], [("a", "x")], (("a", "x"),), ("A", "x"), ("a ", "x"), ("a", b"x"), ("a", ["x"])]
        for thing in things + helper.no_texts():
            for way in (1, -1, 0):
                self.refuse(thing, way)
                self.refuse(thing, way, [])

    def test_refused_may_be_asked_again(self):
        for turn in range(2):
            self.refuse(("a", "x"), True)
            self.refuse(("a", "all"), 1)
            ring = ring_through(square(), square_table(5, 6, 7, 8), square().cells(), ("a", "x"), 1)
            self.assertEqual(dict(ring), dict(CROSS))


class KeptApart(Checked):
    def test_what_is_handed_in_is_not_changed(self):
        house, table, ring = helper.land(), helper.land_table(), [(("sea", "old"), 1), (("sea", "sea"), -1)]
        ring += [(("hill", "old"), -1), (("hill", "sea"), 1), (("north", "old"), -1), (("north", "sea"), 1)]
        opened, steps = house.places() + house.cells(), list(ring)
        changed(house, table, ring, 1)
        for place in house.places():
            for way in (1, -1):
                ring_through(house, table, opened, place, way)
        self.assertEqual(list(table.items()), list(helper.land_table().items()))
        self.assertEqual(ring, steps)
        self.assertEqual(opened, helper.land().places() + helper.land().cells())
        self.assertEqual(house.places(), helper.land().places())

    def test_changing_what_was_told_or_handed_in_changes_nothing(self):
        house, table, ring = square(), square_table(5, 6, 7, 8), list(CROSS)
        first, second = changed(house, table, ring, 1), changed(house, table, ring, 1)
        first.clear()
        self.assertEqual(second, square_table(6, 5, 6, 9))
        self.assertEqual(table, square_table(5, 6, 7, 8))
        ring.clear()
        table[("a", "x")] = 99
        self.assertEqual(second, square_table(6, 5, 6, 9))

    def test_a_table_changed_by_nothing_is_a_new_one(self):
        table = square_table(5, 6, 7, 8)
        for ring, amount in (([], 5), (CROSS, 0)):
            told = changed(square(), table, ring, amount)
            told.clear()
            self.assertEqual(table, square_table(5, 6, 7, 8))

    def test_rings_are_told_anew(self):
        house, table, opened = square(), square_table(5, 6, 7, 8), square().cells()
        first = ring_through(house, table, opened, ("a", "x"), 1)
        second = ring_through(house, table, opened, ("a", "x"), 1)
        first.clear()
        opened.clear()
        table.clear()
        self.assertEqual(dict(second), dict(CROSS))
        third = ring_through(house, square_table(5, 6, 7, 8), house.cells(), ("a", "x"), 1)
        self.assertEqual(dict(third), dict(CROSS))


if __name__ == "__main__":
    unittest.main()
