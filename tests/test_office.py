"""Points 7.1 to 7.4: an office, its secrets, letting out, and what it tells."""

import itertools
import random
import unittest
from collections import defaultdict

from tallyveil.errors import NoPlace, NoSecret, NoTable, Pinned, Secret
from tallyveil.houses import House
from tallyveil.office import Office
from tallyveil.papers import at_least, at_most, sums_above, sums_below
from tallyveil.spans import span
from tallyveil.sums import sums_of
from tallyveil.tables import filled
from tests import helper
from tests.helper import no_places, numbers_of, small_houses, square, square_cells, square_office, square_table, told_by

SIDES = [("all", "x"), ("all", "y"), ("all", "all"), ("a", "all"), ("b", "all")]


def no_place_keys():
    """Those of them that can be keys of a dict, beside places too."""
    return [thing for thing in no_places() if is_key(thing)]


def is_key(thing):
    try:
        return bool({("a", "x"): 1, ("b", "y"): 1, thing: 1})
    except (TypeError, RuntimeError):
        return False


class Checked(helper.Checked):
    def pinned(self, office, places, place, least, greatest):
        """That letting out is refused with Pinned of these fields, whose sums show both; and changes nothing."""
        before = told_by(office)
        house, known = office.house(), list(office.known()) + places
        error = self.refuse(Pinned, office.let_out, places)
        self.assertEqual((error.place, error.least, error.greatest), (place, least, greatest))
        numbers = numbers_of(house, office.whole(), known)
        for sums, ask, number in ((error.low_sums, at_least, least), (error.high_sums, at_most, greatest)):
            self.assertIs(sums.__class__, list)
            self.assertEqual(len(set(sums)), len(sums))
            self.assertLessEqual(set(sums), set(sums_of(house)))
            self.assertEqual(ask(house, numbers, place, sums), number)
        self.assertEqual(told_by(office), before)
        return error


class Made(Checked):
    def test_at_first(self):
        office = square_office({("a", "x"): 3})
        self.assertEqual(office.known(), {})
        self.assertEqual(office.shut(), square().places())
        self.assertEqual(office.outs(), [])
        self.assertEqual(office.secrets(), {("a", "x"): 3})
        self.assertEqual(list(office.whole().items()), list(square_table(5, 6, 7, 8).items()))
        for place in square().places():
            self.assertEqual(office.span(place), (0, None))
            self.assertEqual(office.low_sums_of(place), [])
            self.assertIsNone(office.high_sums_of(place))

    def test_the_house_is_told(self):
        house = helper.land()
        office = Office(house, helper.land_cells(), {})
        self.assertIsInstance(office.house(), House)
        self.assertEqual(office.house().places(), house.places())
        self.assertEqual([office.house().above(part) for part in house.parts()],
                         [house.above(part) for part in house.parts()])
        self.assertEqual(list(office.whole().items()), list(helper.land_table().items()))

    def test_counts_in_any_order(self):
        for order in itertools.permutations(square_cells(5, 6, 7, 8).items()):
            self.assertEqual(list(Office(square(), dict(order), {}).whole().items()),
                             list(square_table(5, 6, 7, 8).items()))

    def test_counts_at_their_bounds(self):
        for count in (0, 10 ** 18):
            self.assertEqual(square_office({}, (count, 0, 0, 0)).whole()[("a", "x")], count)

    def test_no_secrets(self):
        self.assertEqual(square_office({}).secrets(), {})

    def test_secrets_are_told_in_the_order_of_places(self):
        chance = random.Random(50)
        for house in helper.some_houses(12):
            cells = dict.fromkeys(house.cells(), 1)
            widths = {place: chance.choice([1, 2, 10 ** 18]) for place in house.places() if chance.random() < 0.5}
            for turn in range(3):
                office = Office(house, cells, dict(helper.shuffled(chance, widths.items())))
                self.assertEqual(list(office.secrets().items()), list(widths.items()))
                self.assertIs(office.secrets().__class__, dict)

    def test_each_place_may_be_a_secret(self):
        for width in (1, 10 ** 18):
            office = square_office(dict.fromkeys(reversed(square().places()), width), (0, 0, 0, 0))
            self.assertEqual(list(office.secrets().items()), [(place, width) for place in square().places()])

    def test_dicts_and_places_of_a_narrower_kind(self):
        for secrets in helper.dict_kinds({("b", "x"): 2, ("a", "x"): 1}):
            self.assertEqual(list(square_office(secrets).secrets().items()), [(("a", "x"), 1), (("b", "x"), 2)])
        for place in (helper.Pair("a", "x"), ("a", helper.OddText("x")), (helper.WaywardText("a"), "x")):
            office = square_office({place: 4})
            self.assertEqual(office.secrets(), {("a", "x"): 4})
            self.assertTrue(all(place.__class__ is tuple for place in office.secrets()))
            self.assertEqual(self.refuse(Secret, office.let_out, [("a", "x")]).place, ("a", "x"))


class MadeRefused(Checked):
    GOOD = {("a", "x"): 3}

    def test_counts(self):
        cells = square_cells(5, 6, 7, 8)
        lacking = {cell: count for cell, count in cells.items() if cell != ("b", "x")}
        wrong = [{**cells, ("a", "x"): thing} for thing in (-1, 10 ** 18 + 1, True, None, "5", 5.0)]
        for bad in wrong + [{}, lacking, {**cells, ("a", "all"): 11}, square_table(5, 6, 7, 8), list(cells.items()),
                            defaultdict(int, lacking)] + helper.no_dicts():
            self.refuse(NoTable, Office, square(), bad, self.GOOD)

    def test_counts_ahead_of_secrets(self):
        for bad in ({}, None, {**square_cells(5, 6, 7, 8), ("a", "x"): -1}):
            for secrets in (None, [], {("a", "x"): 0}, {"a": 1}, {("c", "x"): 1}):
                self.refuse(NoTable, Office, square(), bad, secrets)

    def test_secrets_that_are_no_dict(self):
        for thing in helper.no_dicts() + [[("a", "x")], [(("a", "x"), 3)], (("a", "x"), 3), {("a", "x")}]:
            self.refuse(NoSecret, square_office, thing)

    def test_secrets_of_no_place(self):
        for thing in no_place_keys():
            for secrets in ({thing: 3}, {("a", "x"): 3, thing: 3}, {thing: 3, ("a", "x"): 3}):
                self.refuse(NoSecret, square_office, secrets)
        for sly in (helper.Sly(("a", "x")), ("a", helper.Sly("x")), (helper.Sly("a"), "x")):
            self.refuse(NoSecret, square_office, {sly: 3})

    def test_widths_that_are_none(self):
        for width in [0, -1, 10 ** 18 + 1, 10 ** 40, -10 ** 18, 10 ** 399, "3"] + helper.no_whole_numbers():
            for place in square().places():
                self.refuse(NoSecret, square_office, {place: width})
                self.refuse(NoSecret, square_office, {("b", "y"): 1, place: width})
                self.refuse(NoSecret, square_office, {place: width, **dict.fromkeys(set(SIDES) - {place}, 1)})

    def test_widths_at_their_bounds(self):
        for width in (1, 2, 10 ** 18 - 1, 10 ** 18):
            self.assertEqual(square_office({("a", "x"): width}).secrets(), {("a", "x"): width})

    def test_what_is_handed_in_is_not_changed(self):
        cells, secrets = square_cells(5, 6, 7, 8), defaultdict(int, {("b", "y"): 1, ("a", "x"): 0})
        for turn in range(2):
            self.refuse(NoSecret, Office, square(), cells, secrets)
            self.assertEqual(list(secrets.items()), [(("b", "y"), 1), (("a", "x"), 0)])
            self.assertEqual(cells, square_cells(5, 6, 7, 8))


class LetOut(Checked):
    def test_ordinary(self):
        office = square_office({("a", "x"): 3})
        self.assertIsNone(office.let_out([("b", "all"), ("all", "all")]))
        self.assertEqual(list(office.known().items()), [(("all", "all"), 26), (("b", "all"), 15)])
        self.assertEqual(office.shut(), [place for place in square().places() if place not in office.known()])
        self.assertEqual(office.span(("b", "all")), (15, 15))
        self.assertEqual(office.span(("a", "all")), (11, 11))
        self.assertEqual(office.span(("a", "x")), (0, 11))
        self.assertEqual(office.span(("all", "x")), (0, 26))

    def test_none(self):
        office = square_office({("a", "x"): 3})
        office.let_out([])
        office.let_out([])
        self.assertEqual((office.known(), office.outs()), ({}, [[], []]))

    def test_twice_and_known_ones_again(self):
        office = square_office({("a", "x"): 3})
        lists = [[("b", "y"), ("b", "y")], [("all", "x"), ("b", "y"), ("all", "x")], [], [("b", "y")]]
        for places in lists:
            office.let_out(places)
        self.assertEqual(list(office.known().items()), [(("all", "x"), 12), (("b", "y"), 8)])
        self.assertEqual(office.outs(), lists)

    def test_all_without_secrets(self):
        for house in helper.some_houses(10):
            cells = helper.some_cells(random.Random(51), house)
            office = Office(house, cells, {})
            office.let_out(list(reversed(house.places())))
            self.assertEqual(list(office.known().items()), list(filled(house, cells).items()))
            self.assertEqual(office.shut(), [])

    def test_one_after_another_is_as_together(self):
        together, single = square_office({("a", "x"): 3}), square_office({("a", "x"): 3})
        places = [("b", "all"), ("all", "y"), ("a", "all"), ("all", "x")]
        together.let_out(places)
        for place in places:
            single.let_out([place])
        self.assertEqual(single.outs(), [[place] for place in places])
        self.assertEqual([thing for thing in told_by(together) if thing != together.outs()],
                         [thing for thing in told_by(single) if thing != single.outs()])

    def test_places_of_a_narrower_kind(self):
        office = square_office({("a", "x"): 3})
        office.let_out([helper.Pair("b", "y"), (helper.OddText("b"), helper.KeylessText("x"))])
        self.assertEqual(list(office.known().items()), [(("b", "x"), 7), (("b", "y"), 8)])
        self.assertEqual(office.outs(), [[("b", "y"), ("b", "x")]])
        self.assertEqual(office.span((helper.KeylessText("b"), helper.WaywardText("x"))), (7, 7))


class Refused(Checked):
    def test_things_that_are_no_place(self):
        office = square_office({("a", "x"): 3})
        office.let_out([("b", "y")])
        before = told_by(office)
        for thing in no_places():
            for places in ([thing], [("b", "x"), thing], [thing, ("b", "x")], [("a", "x"), thing], [thing, ("a", "x")]):
                self.refuse(NoPlace, office.let_out, places)
        self.assertEqual(told_by(office), before)

    def test_no_place_ahead_of_secret_ahead_of_pinned(self):
        office = square_office({("a", "x"): 3})
        pinning = [("a", "all"), ("a", "y")]
        self.pinned(office, pinning, ("a", "x"), 5, 5)
        self.assertEqual(self.refuse(Secret, office.let_out, pinning + [("a", "x")]).place, ("a", "x"))
        self.refuse(NoPlace, office.let_out, pinning + [("a", "x"), ("c", "x")])
        self.refuse(NoPlace, office.let_out, pinning + [None])
        self.refuse(NoPlace, office.let_out, [("a", "x"), ("a", "x", "x")])

    def test_the_first_secret_in_the_list(self):
        office = square_office({("a", "x"): 3, ("b", "y"): 1, ("all", "all"): 2})
        for places, place in (([("b", "y"), ("a", "x")], ("b", "y")), ([("a", "x"), ("b", "y")], ("a", "x")),
                              ([("a", "y"), ("all", "all"), ("b", "y")], ("all", "all")),
                              ([("a", "y"), ("b", "x"), ("b", "y"), ("b", "y")], ("b", "y"))):
            before = told_by(office)
            error = self.refuse(Secret, office.let_out, places)
            self.assertEqual(error.place, place)
            self.assertEqual(told_by(office), before)

    def test_pinned_by_hand(self):
        office = square_office({("a", "x"): 12})
        self.pinned(office, [("a", "all")], ("a", "x"), 0, 11)
        self.pinned(office, SIDES, ("a", "x"), 0, 11)
        self.pinned(office, [("all", "x"), ("b", "x")], ("a", "x"), 5, 5)
        office.let_out([("all", "x")])
        self.assertEqual(office.span(("a", "x")), (0, 12))
        self.pinned(office, [("all", "x"), ("b", "all"), ("all", "all")], ("a", "x"), 0, 11)
        self.pinned(office, [("b", "x"), ("all", "x"), ("b", "x")], ("a", "x"), 5, 5)
        office.let_out([("b", "y"), ("a", "y")])
        self.assertEqual(office.outs(), [[("all", "x")], [("b", "y"), ("a", "y")]])

    def test_pinned_above_nothing(self):
        office = square_office({("a", "x"): 6}, (18, 2, 1, 3))
        self.pinned(office, [("a", "all"), ("all", "y")], ("a", "x"), 15, 20)
        office = square_office({("a", "x"): 5}, (18, 2, 1, 3))
        office.let_out([("a", "all"), ("all", "y")])
        self.assertEqual(office.span(("a", "x")), (15, 20))

    def test_a_width_met_just_and_missed_by_one(self):
        for places, place, least, greatest in (
                ([("a", "all")], ("a", "x"), 0, 11), (SIDES, ("b", "x"), 1, 12), (SIDES, ("b", "y"), 3, 14),
                ([("all", "all")], ("b", "all"), 0, 26), ([("a", "x"), ("a", "all"), ("all", "y")], ("b", "y"), 8, 8)):
            width = greatest - least
            if width:
                office = square_office({place: width})
                office.let_out(places)
                self.assertEqual(office.span(place), (least, greatest))
                self.assertEqual(office.outs(), [places])
            self.pinned(square_office({place: width + 1}), places, place, least, greatest)
            self.pinned(square_office({place: 10 ** 18}), places, place, least, greatest)

    def test_great_widths_met_just_and_missed_by_one(self):
        great = 10 ** 18
        counts = (great, 0, 0, 5)
        office = square_office({("a", "x"): great}, counts)
        office.let_out([("a", "all")])
        self.assertEqual(office.span(("a", "x")), (0, great))
        self.pinned(square_office({("a", "x"): great}, (great - 1, 0, 0, 5)), [("a", "all")], ("a", "x"), 0, great - 1)

    def test_no_greatest_is_wide_enough(self):
        office = square_office({("a", "x"): 10 ** 18, ("all", "all"): 10 ** 18}, (0, 0, 0, 0))
        office.let_out([("b", "x"), ("b", "y"), ("b", "all"), ("a", "y"), ("all", "y")])
        self.assertEqual(office.span(("a", "x")), (0, None))
        self.assertEqual(office.span(("all", "all")), (0, None))

    def test_the_first_secret_that_is_pinned_in_the_order_of_places(self):
        widths = {("all", "x"): 1, ("a", "x"): 11, ("a", "y"): 12, ("b", "x"): 15, ("b", "y"): 16}
        for order in itertools.permutations(widths):
            office = square_office({place: widths[place] for place in order})
            for places, place, greatest in (([("a", "all"), ("b", "all")], ("a", "y"), 11),
                                            ([("b", "all"), ("a", "all")], ("a", "y"), 11),
                                            ([("b", "all")], ("b", "y"), 15), ([("a", "all")], ("a", "y"), 11),
                                            ([("all", "all"), ("a", "all"), ("b", "all")], ("a", "y"), 11)):
                error = self.refuse(Pinned, office.let_out, places)
                self.assertEqual((error.place, error.least, error.greatest), (place, 0, greatest))

    def test_lists_of_the_refusal_are_the_askers_own(self):
        office = square_office({("a", "x"): 12})
        first = self.pinned(office, SIDES, ("a", "x"), 0, 11)
        second = self.pinned(office, SIDES, ("a", "x"), 0, 11)
        sums = list(second.high_sums)
        first.low_sums.append(("across", "all"))
        first.high_sums.clear()
        self.assertEqual((second.low_sums, second.high_sums), ([], sums))
        third = self.pinned(office, SIDES, ("a", "x"), 0, 11)
        self.assertEqual((third.low_sums, third.high_sums), ([], sums))

    def test_behind_refusals_all_is_as_if_nothing_had_been_asked(self):
        secrets = {("a", "x"): 12, ("b", "y"): 2}
        asked, quiet = square_office(secrets), square_office(secrets)
        for places in ([("all", "x")], [], [("a", "y"), ("all", "x")], [("b", "x")], [("all", "y")], [("b", "all")]):
            for bad, error in (([("a", "y"), ("a", "x")], Secret), ([("all", "y"), None], NoPlace),
                               ([("all", "y"), ("a", "all")], Pinned)):
                self.refuse(error, asked.let_out, bad)
                self.assertEqual(told_by(asked), told_by(quiet))
            try:
                quiet.let_out(places)
            except Pinned as error:
                again = self.pinned(asked, places, error.place, error.least, error.greatest)
                self.assertEqual((again.low_sums, again.high_sums), (error.low_sums, error.high_sums))
            else:
                asked.let_out(places)
            self.assertEqual(told_by(asked), told_by(quiet))


class Model:
    """What an office must do, reckoned from the spans that are handed in as a function of the known numbers."""

    def __init__(self, house, table, secrets, spans):
        self.house, self.table, self.spans = house, table, spans
        self.secrets = {place: secrets[place] for place in house.places() if place in secrets}
        self.known, self.outs = set(), []

    def would_be(self, places):
        """The refusal that comes of letting out, with its fields, or None."""
        if not set(places) <= set(self.house.places()):
            return (NoPlace,)
        for place in places:
            if place in self.secrets:
                return (Secret, place)
        found = self.spans(numbers_of(self.house, self.table, self.known | set(places)))
        for place, width in self.secrets.items():
            least, greatest = found(place)
            if greatest is not None and greatest - least < width:
                return (Pinned, place, least, greatest)
        return None

    def let_out(self, places):
        self.known |= set(places)
        self.outs.append(list(places))


class RowsOfDeeds(Checked):
    def do(self, office, model, places, tally):
        refusal = model.would_be(places)
        tally[refusal and refusal[0]] += 1
        if refusal is None:
            office.let_out(places)
            model.let_out(places)
        elif refusal[0] == Pinned:
            self.check_pinned(office, model, places, refusal)
        else:
            error = self.refuse(refusal[0], office.let_out, places)
            self.assertEqual(getattr(error, "place", None), (refusal + (None,))[1])
        self.check_told(office, model)

    def check_pinned(self, office, model, places, refusal):
        error = self.refuse(Pinned, office.let_out, places)
        self.assertEqual((error.place, error.least, error.greatest), refusal[1:])
        numbers = numbers_of(model.house, model.table, model.known | set(places))
        self.assertEqual(at_least(model.house, numbers, error.place, error.low_sums), error.least)
        self.assertEqual(at_most(model.house, numbers, error.place, error.high_sums), error.greatest)
        self.assertEqual(error.low_sums, sums_below(model.house, model.table, list(numbers), error.place))
        self.assertEqual(error.high_sums, sums_above(model.house, model.table, list(numbers), error.place))

    def check_told(self, office, model):
        house = model.house
        self.assertEqual(list(office.known().items()), list(numbers_of(house, model.table, model.known).items()))
        self.assertEqual(office.shut(), [place for place in house.places() if place not in model.known])
        self.assertEqual(office.outs(), model.outs)
        self.assertEqual(list(office.secrets().items()), list(model.secrets.items()))
        self.assertEqual(list(office.whole().items()), list(model.table.items()))

    def check_spans(self, office, model, places):
        """What the office tells of places, and that nobody reckons a secret closer than its width."""
        found = model.spans(numbers_of(model.house, model.table, model.known))
        for place in places:
            least, greatest = office.span(place)
            self.assertEqual((least, greatest), found(place))
            low, high = office.low_sums_of(place), office.high_sums_of(place)
            self.assertEqual(at_least(model.house, office.known(), place, low), least)
            self.assertEqual(high is None, greatest is None)
            if high is not None:
                self.assertEqual(at_most(model.house, office.known(), place, high), greatest)
            if place in model.secrets and greatest is not None:
                self.assertGreaterEqual(greatest - least, model.secrets[place])

    def row_of_deeds(self, chance, house, counts, widths, spans, tally, turns):
        table = filled(house, {cell: chance.choice(counts) for cell in house.cells()})
        some = helper.shuffled(chance, house.places())[:chance.randint(0, 4)]
        secrets = {place: chance.choice(widths) for place in some}
        office = Office(house, {cell: table[cell] for cell in house.cells()}, secrets)
        model = Model(house, table, secrets, lambda numbers: spans(house, table, numbers))
        for turn in range(turns):
            places = [place for place in helper.shuffled(chance, house.places()) if place not in secrets]
            places = places[:chance.choice([0, 1, 1, 2, 3])] + chance.choices(places[:2], k=len(places) and 1)
            places += [place for place in secrets if chance.random() < 0.05]
            places += [("no", "place")] * (chance.random() < 0.05)
            self.do(office, model, helper.shuffled(chance, places), tally)
        self.check_spans(office, model, helper.shuffled(chance, house.places())[:9] + list(secrets))

    def test_small_houses_searched(self):
        def spans(house, table, numbers):
            if helper.can_be_searched(house, numbers):
                return helper.searched_spans(house, numbers).get
            return lambda place: span(house, table, list(numbers), place)

        chance, tally = random.Random(52), defaultdict(int)
        for house in small_houses():
            for turn in range(12):
                self.row_of_deeds(chance, house, [0, 1, 1, 2, 3], [1, 1, 2, 3, 4], spans, tally, 8)
        # The inputs are such that each answer comes.
        self.assertTrue(all(tally[error] > 15 for error in (None, NoPlace, Secret, Pinned)), dict(tally))

    def test_many_houses(self):
        def spans(house, table, numbers):
            return lambda place: span(house, table, list(numbers), place)

        chance, tally = random.Random(53), defaultdict(int)
        for house in helper.some_houses(40):
            with helper.within(60):
                self.row_of_deeds(chance, house, [0, 1, 99, 10 ** 18], [1, 50, 10 ** 18], spans, tally, 12)
        self.assertTrue(all(tally[error] > 15 for error in (None, NoPlace, Secret, Pinned)), dict(tally))

    def test_the_greatest_house_let_out_place_by_place(self):
        chance = random.Random(54)
        house = helper.greatest_house()
        cells = {cell: chance.randint(0, 10 ** 18) for cell in house.cells()}
        some = helper.shuffled(chance, house.places())[:12]
        secrets = {place: chance.choice([1, 10 ** 9, 10 ** 17]) for place in some}
        office, stayed = Office(house, cells, secrets), 0
        with helper.within(120):
            for place in helper.shuffled(chance, [place for place in house.places() if place not in secrets]):
                try:
                    office.let_out([place])
                except Pinned:
                    stayed += 1
        self.assertEqual(len(office.known()) + stayed + len(secrets), len(house.places()))
        self.assertTrue(stayed)
        for place, width in secrets.items():
            least, greatest = office.span(place)
            self.assertTrue(greatest is None or greatest - least >= width)

    def test_a_house_full_of_secrets(self):
        chance = random.Random(55)
        house = helper.greatest_house()
        cells = {cell: chance.randint(0, 10 ** 18) for cell in house.cells()}
        office = Office(house, cells, dict.fromkeys(house.cells(), 10 ** 17))
        with helper.within(60):
            office.let_out([place for place in house.places() if place not in house.cells()])
        self.assertEqual(office.shut(), house.cells())


class Tells(Checked):
    def test_places_of_the_house(self):
        house, table = helper.land(), helper.land_table()
        office = Office(house, helper.land_cells(), {("bay", "old"): 100})
        office.let_out([("north", "old"), ("all", "sea"), ("hill", "old"), ("cape", "all")])
        known = list(office.known())
        self.assertEqual(known, [("all", "sea"), ("north", "old"), ("hill", "old"), ("cape", "all")])
        for place in house.places():
            self.assertEqual(office.span(place), span(house, table, known, place))
            self.assertEqual(office.low_sums_of(place), sums_below(house, table, known, place))
            self.assertEqual(office.high_sums_of(place), sums_above(house, table, known, place))
        # Of the 87000000 of cape, at most 80604020 are in sea; the rest is in old, and leaves bay so much of coast's.
        self.assertEqual(office.span(("bay", "old")), (0, 7050000 - (87000000 - 80604020)))
        self.assertEqual(office.span(("coast", "old")), (7050000, 7050000))
        self.assertEqual(office.span(("sea", "old")), (0, None))

    def test_no_place_of_the_house(self):
        office = square_office({("a", "x"): 3})
        office.let_out([("b", "y")])
        before = told_by(office)
        for thing in no_places():
            for ask in (office.span, office.low_sums_of, office.high_sums_of):
                self.refuse(NoPlace, ask, thing)
        self.assertEqual(told_by(office), before)

    def test_the_kinds(self):
        office = square_office({("a", "x"): 3})
        office.let_out([("a", "all"), ("b", "all")])
        for told, kind in ((office.known(), dict), (office.shut(), list), (office.span(("a", "x")), tuple),
                           (office.low_sums_of(("a", "x")), list), (office.high_sums_of(("a", "x")), list),
                           (office.secrets(), dict), (office.outs(), list), (office.outs()[0], list),
                           (office.whole(), dict)):
            self.assertIs(told.__class__, kind)

    def test_outs_in_the_order_of_time(self):
        office = square_office({("a", "x"): 3})
        lists = [[("b", "y"), ("all", "x"), ("b", "y")], [], [("all", "x")], [], [("a", "y"), ("b", "y")]]
        for places in lists:
            office.let_out(places)
            self.refuse(Secret, office.let_out, [("b", "x"), ("a", "x")])
        self.assertEqual(office.outs(), lists)

    def test_two_offices_of_one_house_are_apart(self):
        house, cells = square(), square_cells(5, 6, 7, 8)
        first, second = Office(house, cells, {("a", "x"): 3}), Office(house, cells, {})
        second.let_out([("a", "x")])
        self.assertEqual((first.known(), first.outs(), first.secrets()), ({}, [], {("a", "x"): 3}))
        self.assertEqual((second.known(), second.secrets()), ({("a", "x"): 5}, {}))


class KeptApart(Checked):
    LISTS = ([("b", "all"), ("b", "all")], [], [("a", "all"), ("all", "all")])

    def made(self):
        office = square_office({("b", "x"): 1, ("a", "x"): 3})
        for places in self.LISTS:
            office.let_out(list(places))
        return office

    def test_what_is_handed_in_is_not_changed(self):
        house, cells, secrets = square(), square_cells(5, 6, 7, 8), {("b", "x"): 1, ("a", "x"): 3}
        office = Office(house, cells, secrets)
        for places in self.LISTS + ([("b", "y"), ("a", "x")], [("b", "y"), None], [("a", "y"), ("a", "all")]):
            handed = list(places)
            try:
                office.let_out(handed)
            except (NoPlace, Secret, Pinned):
                pass
            self.assertEqual(handed, places)
        self.assertEqual(list(cells.items()), list(square_cells(5, 6, 7, 8).items()))
        self.assertEqual(list(secrets.items()), [(("b", "x"), 1), (("a", "x"), 3)])
        self.assertEqual(house.places(), square().places())

    def test_changing_what_was_handed_in_changes_nothing(self):
        cells, secrets = square_cells(5, 6, 7, 8), {("b", "x"): 1, ("a", "x"): 3}
        office = Office(square(), cells, secrets)
        cells[("a", "x")] = 99
        secrets[("a", "y")] = 5
        del secrets[("b", "x")]
        for places in self.LISTS:
            handed = list(places)
            office.let_out(handed)
            handed.append(("all", "x"))
        cells.clear()
        secrets.clear()
        self.assertEqual(told_by(office), told_by(self.made()))

    def test_changing_what_was_told_changes_nothing(self):
        fresh, office, place = told_by(self.made()), self.made(), ("a", "x")
        asks = [office.known, office.shut, office.secrets, office.outs, office.whole, lambda: office.outs()[0],
                lambda: office.low_sums_of(place), lambda: office.high_sums_of(place), lambda: office.house().places()]
        for ask in asks:
            earlier, told = ask(), ask()
            self.assertEqual(earlier, told)
            told.update({"more": 1}) if isinstance(told, dict) else told.append("more")
            self.assertEqual(earlier, ask())
            self.assertEqual(told_by(office), fresh)
            told.clear()
            self.assertEqual(earlier, ask())
            self.assertEqual(told_by(office), fresh)

    def test_nothing_done_later_changes_what_was_told(self):
        office = square_office({("a", "x"): 3})
        told = [office.known(), office.shut(), office.secrets(), office.outs(), office.whole()]
        office.let_out([("b", "y"), ("all", "x")])
        self.assertEqual(told, [{}, square().places(), {("a", "x"): 3}, [], square_table(5, 6, 7, 8)])


if __name__ == "__main__":
    unittest.main()
