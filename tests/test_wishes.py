"""Points 8.1 and 8.2: a wish gone through in its order, and what of it must stay in."""

import itertools
import random
import unittest
from collections import defaultdict

from tallyveil.errors import NoPlace, Pinned, Secret
from tallyveil.office import Office
from tallyveil.spans import span
from tallyveil.tables import filled
from tallyveil.wishes import parted
from tests import helper
from tests.helper import numbers_of, small_houses, square, square_cells, square_office, told_by


def cells_of(house, table):
    return {cell: table[cell] for cell in house.cells()}


def searched_or_spanned(house, table, known):
    """The span of each place to whom these are known: by a search over all tables, where that is not too long."""
    numbers = numbers_of(house, table, known)
    if helper.can_be_searched(house, numbers):
        return helper.searched_spans(house, numbers).get
    return lambda place: span(house, table, known, place)


def spanned(house, table, known):
    return lambda place: span(house, table, known, place)


def is_kept(secrets, found):
    """Whether each secret is kept, by the spans that are found."""
    spans = [found(place) + (width,) for place, width in secrets.items()]
    return all(greatest is None or greatest - least >= width for least, greatest, width in spans)


def gone_through(house, table, secrets, known, wish, spans):
    """The two lists by the words of the document."""
    going, staying = [], []
    for place in dict.fromkeys(wish):
        would = list(known) + going + [place]
        free = place not in secrets and is_kept(secrets, spans(house, table, would))
        (going if free else staying).append(place)
    return going, staying


class Checked(helper.Checked):
    def part(self, office, wish):
        """What is told, which is a tuple of two lists of plain places; nothing is let out, and the wish not changed."""
        handed, before = list(wish), told_by(office, [])
        told = parted(office, handed)
        self.assertEqual(handed, wish)
        self.assertEqual(told_by(office, []), before)
        self.assertIs(told.__class__, tuple)
        self.assertEqual([one.__class__ for one in told], [list, list])
        for place in told[0] + told[1]:
            self.assertEqual((place.__class__, place[0].__class__, place[1].__class__), (tuple, str, str))
        return told

    def ask(self, office, wish, going, staying):
        self.assertEqual(self.part(office, wish), (going, staying))

    def check_together(self, alike, going, staying, tally):
        """In an office made alike: all that goes can go together, and then nothing that stays in."""
        alike.let_out(going)
        after = told_by(alike, [])
        for place in staying:
            error = self.refuse(Secret if place in alike.secrets() else Pinned, alike.let_out, [place])
            tally[error.__class__] += 1
            self.assertIn(error.place, alike.secrets())
            self.assertEqual(told_by(alike, []), after)


class ByHand(Checked):
    def test_none(self):
        self.ask(square_office({("a", "x"): 3}), [], [], [])
        self.ask(square_office({}), [], [], [])

    def test_one(self):
        # To whom the 11 of a are known, a in x is from 0 to 11.
        for width, place, goes in ((11, ("a", "all"), True), (12, ("a", "all"), False), (12, ("all", "x"), True),
                                   (13, ("all", "x"), False), (1, ("a", "x"), False), (10 ** 18, ("b", "y"), True)):
            office = square_office({("a", "x"): width})
            self.ask(office, [place], [place] if goes else [], [] if goes else [place])

    def test_without_secrets_all_goes(self):
        for house in helper.some_houses(8):
            office = Office(house, helper.some_cells(random.Random(60), house), {})
            wish = helper.shuffled(random.Random(61), house.places())
            self.ask(office, wish, wish, [])

    def test_all_places_are_secrets(self):
        office = square_office(dict.fromkeys(square().places(), 1))
        wish = list(reversed(square().places()))
        self.ask(office, wish, [], wish)

    def test_who_comes_first_is_let_out(self):
        office = square_office({("a", "x"): 12})
        self.ask(office, [("all", "x"), ("b", "x")], [("all", "x")], [("b", "x")])
        self.ask(office, [("b", "x"), ("all", "x")], [("b", "x")], [("all", "x")])
        self.ask(office, [("a", "y"), ("b", "x"), ("all", "x"), ("a", "all")],
                 [("a", "y"), ("b", "x")], [("all", "x"), ("a", "all")])

    def test_what_stays_in_does_not_hold_back_others(self):
        office = square_office({("a", "x"): 12})
        # Beside all in x, b in x would tell a in x; as it stays in, the others can go.
        self.ask(office, [("all", "x"), ("b", "x"), ("b", "y"), ("all", "y"), ("a", "y")],
                 [("all", "x"), ("b", "y"), ("all", "y"), ("a", "y")], [("b", "x")])

    def test_known_already(self):
        office = square_office({("a", "x"): 12})
        office.let_out([("all", "x"), ("b", "y")])
        self.ask(office, [("b", "y")], [("b", "y")], [])
        self.ask(office, [("b", "x"), ("b", "y"), ("all", "x")], [("b", "y"), ("all", "x")], [("b", "x")])
        self.ask(office, [("b", "x"), ("a", "y")], [("a", "y")], [("b", "x")])

    def test_what_is_known_counts_though_it_is_not_wished(self):
        self.ask(square_office({("a", "x"): 3}), [("a", "y")], [("a", "y")], [])
        office = square_office({("a", "x"): 3})
        office.let_out([("a", "all")])
        self.ask(office, [("a", "y")], [], [("a", "y")])

    def test_twice(self):
        office = square_office({("a", "x"): 12, ("b", "y"): 1})
        x, y, secret, bad = ("all", "x"), ("all", "y"), ("a", "x"), ("b", "x")
        self.ask(office, [x, x], [x], [])
        self.ask(office, [secret, secret], [], [secret])
        self.ask(office, [y, secret, x, secret, bad, y, bad, x], [y, x], [secret, bad])
        office.let_out([x])
        self.ask(office, [bad, x, bad, x, y, y], [x, y], [bad])

    def test_a_secret_that_is_not_wished(self):
        office = square_office({("all", "all"): 1})
        wish = [place for place in square().places() if place != ("all", "all")]
        # Whatever tells the column y, be it by way of b, tells it beside the column x.
        self.ask(office, wish, [("all", "x"), ("a", "x"), ("a", "y"), ("a", "all"), ("b", "x")],
                 [("all", "y"), ("b", "y"), ("b", "all")])

    def test_several_secrets(self):
        office = square_office({("b", "y"): 15, ("a", "x"): 11, ("a", "y"): 12})
        # The 11 of a hold a in y too close, and so do the 26 of all beside the 15 of b.
        self.ask(office, [("a", "all"), ("b", "all"), ("a", "x"), ("all", "all")],
                 [("b", "all")], [("a", "all"), ("a", "x"), ("all", "all")])

    def test_places_of_a_narrower_kind(self):
        office = square_office({("a", "x"): 12})
        wish = [helper.Pair("all", "x"), (helper.KeylessText("b"), helper.OddText("x")), ("all", "x"),
                (helper.WaywardText("a"), "x")]
        going, staying = parted(office, wish)
        self.assertEqual((going, staying), ([("all", "x")], [("b", "x"), ("a", "x")]))
        self.assertEqual([place.__class__ for place in going + staying], [tuple] * 3)


class EveryOrder(Checked):
    def test_of_some_places(self):
        house, secrets = square(), {("a", "x"): 12, ("b", "y"): 9}
        table = filled(house, square_cells(5, 6, 7, 8))
        office, places = square_office(secrets), [("all", "x"), ("b", "x"), ("a", "all"), ("b", "all"), ("a", "x")]
        parts = set()
        for wish in itertools.permutations(places):
            told = self.part(office, list(wish))
            self.assertEqual(told, gone_through(house, table, secrets, [], wish, searched_or_spanned))
            parts.add(tuple(sorted(told[0])))
        # What goes hangs on the order.
        self.assertGreater(len(parts), 1)


class NoPlaces(Checked):
    def test_things_of_any_kind(self):
        office = square_office({("a", "x"): 3})
        office.let_out([("b", "y")])
        before = told_by(office)
        for thing in helper.no_places():
            for wish in ([thing], [("b", "x"), thing], [thing, ("b", "x")], [("a", "x"), ("a", "all"), thing],
                         [("b", "y"), ("b", "y"), thing, thing]):
                self.refuse(NoPlace, parted, office, wish)
        self.assertEqual(told_by(office), before)

    def test_places_of_another_house(self):
        office = Office(helper.land(), helper.land_cells(), {})
        for place in (("a", "x"), ("old", "sea"), ("all", "north"), ("hill", "hill")):
            self.refuse(NoPlace, parted, office, [("hill", "sea"), place])
        self.ask(office, [("sea", "sea"), ("hill", "sea")], [("sea", "sea"), ("hill", "sea")], [])

    def test_asked_again(self):
        office = square_office({("a", "x"): 12})
        for turn in range(2):
            self.refuse(NoPlace, parted, office, [("all", "x"), ("c", "x")])
            self.ask(office, [("all", "x"), ("b", "x")], [("all", "x")], [("b", "x")])


class ManyWishes(Checked):
    def try_wishes(self, chance, house, counts, widths, spans, tally, turns):
        table = filled(house, {cell: chance.choice(counts) for cell in house.cells()})
        secrets = {place: chance.choice(widths)
                   for place in helper.shuffled(chance, house.places())[:chance.randint(0, 4)]}
        cells = cells_of(house, table)
        office = Office(house, cells, secrets)
        for turn in range(turns):
            wish = helper.shuffled(chance, house.places())
            wish = wish[:chance.choice([0, 1, 3, 6, 9])] + wish[:chance.choice([0, 2])]
            wish = helper.shuffled(chance, wish)
            going, staying = self.part(office, wish)
            self.assertEqual((going, staying),
                             gone_through(house, table, secrets, office.known(), wish, spans))
            alike = Office(house, cells, secrets)
            for places in office.outs():
                alike.let_out(places)
            self.check_together(alike, going, staying, tally)
            tally["goes"] += len(going)
            if chance.random() < 0.6:
                office.let_out(going[:2])

    def test_small_houses_searched(self):
        chance, tally = random.Random(62), defaultdict(int)
        for house in small_houses():
            for turn in range(8):
                self.try_wishes(chance, house, [0, 1, 1, 2, 3], [1, 1, 2, 3, 4], searched_or_spanned, tally, 4)
        self.assertTrue(all(tally[name] > 100 for name in ("goes", Pinned, Secret)), dict(tally))

    def test_many_houses(self):
        chance, tally = random.Random(63), defaultdict(int)
        for house in helper.some_houses(25):
            self.try_wishes(chance, house, [0, 1, 99, 10 ** 18], [1, 50, 10 ** 18], spanned, tally, 3)
        self.assertTrue(all(tally[name] > 15 for name in ("goes", Pinned, Secret)), dict(tally))

    def test_all_places_of_many_houses(self):
        chance, tally = random.Random(64), defaultdict(int)
        for house in helper.some_houses(12):
            cells = helper.some_cells(chance, house)
            some = helper.shuffled(chance, house.places())[:chance.randint(1, 12)]
            secrets = {place: chance.choice([1, 10, 10 ** 17]) for place in some}
            wish = helper.shuffled(chance, house.places())
            going, staying = self.part(Office(house, cells, secrets), wish)
            self.assertEqual(sorted(going + staying), sorted(wish))
            self.assertEqual([place for place in wish if place in going], going)
            self.assertEqual([place for place in wish if place in staying], staying)
            self.check_together(Office(house, cells, secrets), going, staying, tally)
        self.assertTrue(tally[Pinned] and tally[Secret])

    def test_the_greatest_house_with_many_secrets(self):
        chance, house, tally = random.Random(65), helper.greatest_house(), defaultdict(int)
        cells = {cell: chance.randint(0, 10 ** 18) for cell in house.cells()}
        secrets = dict.fromkeys(chance.sample(house.cells(), 40), 10 ** 17)
        wish = [place for place in house.places() if place not in cells] + helper.shuffled(chance, cells)
        with helper.within(60):
            going, staying = self.part(Office(house, cells, secrets), wish)
        self.assertEqual(len(going + staying), 225)
        self.check_together(Office(house, cells, secrets), going, staying, tally)
        self.assertEqual(tally[Secret], 40)
        self.assertTrue(tally[Pinned])


class KeptApart(Checked):
    WISH = [("all", "x"), ("b", "x"), ("a", "x"), ("b", "y")]

    def test_changing_what_was_told_changes_nothing(self):
        office = square_office({("a", "x"): 12})
        before, first, second = told_by(office), parted(office, self.WISH), parted(office, self.WISH)
        for one in first:
            one.append(("all", "all"))
            one.reverse()
        self.assertEqual(second, ([("all", "x"), ("b", "y")], [("b", "x"), ("a", "x")]))
        self.assertEqual(parted(office, self.WISH), second)
        self.assertEqual(told_by(office), before)

    def test_changing_what_was_handed_in_changes_nothing(self):
        office, wish = square_office({("a", "x"): 12}), list(self.WISH)
        told = parted(office, wish)
        wish.clear()
        office.let_out([("b", "x")])
        self.assertEqual(told, ([("all", "x"), ("b", "y")], [("b", "x"), ("a", "x")]))
        self.assertEqual(parted(office, self.WISH), ([("b", "x"), ("b", "y")], [("all", "x"), ("a", "x")]))

    def test_asking_does_not_let_out(self):
        office, quiet = square_office({("a", "x"): 12}), square_office({("a", "x"): 12})
        for wish in (self.WISH, [("all", "y")], square().places()):
            parted(office, wish)
            self.assertEqual(told_by(office), told_by(quiet))
        office.let_out([("b", "x")])
        self.refuse(Pinned, office.let_out, [("all", "x")])


if __name__ == "__main__":
    unittest.main()
