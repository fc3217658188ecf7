"""Point 0.4, over the whole program: rows of deeds at the desk, and an outsider who has the outsider's text alone."""

import random
import unittest
from collections import defaultdict

from tallyveil.desk import Desk
from tallyveil.errors import NoPlace, Pinned, Secret
from tallyveil.spans import free_ring, greatest_table, least_table
from tallyveil.sums import sums_of
from tallyveil.tables import filled, is_table
from tallyveil.texts import read_numbers, show_house
from tests import helper
from tests.helper import numbers_of, reckoned, sums_in

BETWEEN = " ; "


def rows_of(text):
    return text.replace(BETWEEN, "\n")


def words_of(places):
    return " ".join(" ".join(place) for place in places)


def places_in(text):
    words = text.split(" ")
    return list(zip(words[1::2], words[2::2]))


class Case:
    """A table with its secrets, at a desk; what is let out is kept here beside it."""

    def __init__(self, chance, house, counts, widths):
        self.chance, self.house = chance, house
        self.cells = {cell: chance.choice(counts) for cell in house.cells()}
        self.table = filled(house, self.cells)
        some = helper.shuffled(chance, house.places())[:chance.choice([1, 2, 4])]
        self.secrets = {place: chance.choice(widths) for place in house.places() if place in some}
        self.known, self.lists = [], []
        self.desk = self.another([])

    def book(self, lists):
        rows = show_house(self.house).split("\n")
        rows += ["row " + " ".join([row] + [str(self.cells[(row, column)]) for column in self.house.columns()])
                 for row in self.house.rows()]
        rows += [f"secret {words_of([place])} {width}" for place, width in self.secrets.items()]
        return BETWEEN.join(rows + [f"out {words_of(places)}".strip() for places in lists])

    def another(self, lists):
        """A desk with an office made alike, of which these lists are let out."""
        desk = Desk()
        desk.say("open " + self.book(lists))
        return desk

    def some_places(self):
        places = self.chance.choices(self.house.places(), k=self.chance.choice([1, 1, 2, 3]))
        return [place for place in places if place not in self.secrets or self.chance.random() < 0.1] or places


class Checked(helper.Checked):
    def check_answers(self, case, tally):
        """All that the desk answers, held against the outsider's text."""
        house, table, desk = case.house, case.table, case.desk
        numbers = read_numbers(house, rows_of(desk.say("hand")))
        self.assertEqual(list(numbers.items()), list(numbers_of(house, table, case.known).items()))
        self.assertEqual(desk.say("book"), case.book(case.lists))
        searched = helper.searched_spans(house, numbers) if helper.can_be_searched(house, numbers) else {}
        places = helper.shuffled(case.chance, house.places())[:6]
        for place in dict.fromkeys(places + list(case.secrets)):
            least, greatest = self.check_place(case, numbers, place, tally)
            self.assertEqual(searched.get(place, (least, greatest)), (least, greatest))
            tally["searched"] += place in searched
            if place in case.secrets:
                # Nobody can reckon it closer.
                self.assertTrue(greatest is None or greatest - least >= case.secrets[place])
                tally["kept"] += greatest is not None

    def check_place(self, case, numbers, place, tally):
        """The span at the desk: met by told tables, and shown by told sums."""
        house, table, known = case.house, case.table, list(numbers)
        low, high = case.desk.say(f"show {words_of([place])}").split(" | ")
        least, greatest = case.desk.say(f"span {words_of([place])}").split(" to ")
        self.assertLessEqual(set(sums_in(low)), set(sums_of(house)))
        self.assertEqual(reckoned(house, numbers, place, sums_in(low))[0], int(least))
        met = least_table(house, table, known, place)
        self.check_agreeing(house, table, known, met)
        self.assertEqual(met[place], int(least))
        met, ring = greatest_table(house, table, known, place), free_ring(house, table, known, place)
        if greatest == "-":
            tally["free"] += 1
            self.assertEqual((high, met), ("-", None))
            self.check_ring(house, ring)
            self.assertTrue(all(way == 1 and one not in numbers for one, way in ring))
            self.assertIn((place, 1), ring)
            return int(least), None
        self.assertEqual(reckoned(house, numbers, place, sums_in(high))[1], int(greatest))
        self.check_agreeing(house, table, known, met)
        self.assertEqual((met[place], ring), (int(greatest), None))
        return int(least), int(greatest)

    def let_out(self, case, places, tally):
        try:
            self.assertEqual(case.desk.say("out " + words_of(places)), "ok")
        except (Secret, Pinned, NoPlace) as error:
            tally[error.__class__] += 1
            self.check_refusal(case, places, error)
        else:
            tally["out"] += 1
            case.known = list(dict.fromkeys(case.known + places))
            case.lists.append(places)

    def check_refusal(self, case, places, error):
        """What is not let out is a secret, or would bring one closer than its width, as sums show."""
        house = case.house
        if isinstance(error, NoPlace):
            self.assertFalse(set(places) <= set(house.places()))
        elif isinstance(error, Secret):
            self.assertEqual(error.place, [place for place in places if place in case.secrets][0])
        else:
            numbers = numbers_of(house, case.table, case.known + places)
            self.assertEqual(reckoned(house, numbers, error.place, error.low_sums)[0], error.least)
            self.assertEqual(reckoned(house, numbers, error.place, error.high_sums)[1], error.greatest)
            self.assertLess(error.greatest - error.least, case.secrets[error.place])

    def check_wish(self, case, wish, tally):
        """What is told to be let out can be let out together, and beside it none of what is told to stay in."""
        going, staying = case.desk.say("try " + words_of(wish)).split(" | ")
        self.assertEqual(sorted(places_in(going) + places_in(staying)), sorted(set(wish)))
        other = case.another(case.lists)
        if places_in(going):
            self.assertEqual(other.say(going), "ok")
        for place in places_in(staying):
            error = Secret if place in case.secrets else Pinned
            self.refuse(error, other.say, "out " + words_of([place]))
            tally["stays"] += error is Pinned
        self.assertEqual(case.desk.say("book"), case.book(case.lists))

    def check_rounded(self, case, base):
        table = case.table
        told = read_numbers(case.house, rows_of(case.desk.say(f"round {base}")))
        self.assertTrue(is_table(case.house, told))
        for place in case.house.places():
            below = table[place] // base * base
            self.assertIn(told[place], (below, below if below == table[place] else below + base))

    def check_together(self, case):
        """Whether lists are let out one by one, in another order, or together, the outsider gets the same."""
        single = [[place] for place in helper.shuffled(case.chance, case.known)]
        asks = ["hand"] + [f"{word} {words_of([place])}" for place in case.secrets for word in ("span", "show")]
        answers = [case.desk.say(row) for row in asks]
        for lists in (single, [list(reversed(case.known))], case.lists[::-1]):
            self.assertEqual([case.another(lists).say(row) for row in asks], answers)
        again = Desk()
        again.say("open " + case.desk.say("book"))
        self.assertEqual([again.say(row) for row in asks + ["book"]], answers + [case.desk.say("book")])

    def row_of_deeds(self, case, turns, tally):
        for turn in range(turns):
            places = case.some_places() + [("no", "place")] * (case.chance.random() < 0.1)
            self.let_out(case, places, tally)
            self.check_answers(case, tally)
        self.check_wish(case, case.some_places() + case.some_places(), tally)
        self.check_wish(case, helper.shuffled(case.chance, case.house.places())[:40], tally)
        self.check_rounded(case, case.chance.choice([1, 2, 3, 10, 10 ** 9, 10 ** 18]))
        self.check_together(case)


class RowsOfDeeds(Checked):
    def check_tally(self, tally, names):
        # The inputs are such that each of these comes.
        self.assertTrue(all(tally[name] > 15 for name in names), dict(tally))

    def test_small_houses(self):
        chance, tally = random.Random(100), defaultdict(int)
        for house in helper.small_houses() * 4:
            self.row_of_deeds(Case(chance, house, [0, 1, 1, 2, 3], [1, 1, 2, 3]), 7, tally)
        self.check_tally(tally, ("out", "free", "kept", "stays", "searched", Secret, Pinned, NoPlace))

    def test_many_houses(self):
        chance, tally = random.Random(101), defaultdict(int)
        for house in helper.some_houses(16):
            with helper.within(60):
                self.row_of_deeds(Case(chance, house, [0, 1, 99, 10 ** 18], [1, 50, 10 ** 17]), 4, tally)
        self.check_tally(tally, ("out", "free", "stays"))

    def test_sums_first_and_then_all_that_can_go(self):
        chance, tally = random.Random(102), defaultdict(int)
        for house in helper.some_houses(9) + helper.small_houses():
            case = Case(chance, house, [0, 1, 5, 99, 10 ** 18], [1, 3, 90])
            wish = sorted(house.places(), key=lambda place: place in case.cells)
            going = places_in(case.desk.say("try " + words_of(wish)).split(" | ")[0])
            if going:
                self.let_out(case, going, tally)
            self.check_answers(case, tally)
            self.check_wish(case, wish, tally)
            self.check_together(case)
        self.check_tally(tally, ("kept", "stays"))
        self.assertFalse(tally[Secret] or tally[Pinned])


if __name__ == "__main__":
    unittest.main()
