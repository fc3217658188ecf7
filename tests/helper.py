"""What several tests need: houses to ask of, and things of many kinds to be refused."""

import itertools
import random
import re
import signal
import unittest
from collections import OrderedDict, defaultdict, namedtuple
from contextlib import contextmanager

from tallyveil.houses import House
from tallyveil.office import Office
from tallyveil.sums import ends_of, others_of, sums_of, whole_of
from tallyveil.tables import filled, is_table


class Sly:
    """Claims to be a place by its hash, and fails whoever compares or shows it."""

    def __init__(self, like):
        self.like = like

    def __hash__(self):
        return hash(self.like)

    def __eq__(self, other):
        raise RuntimeError("compared")

    def __repr__(self):
        raise RuntimeError("shown")


class KeylessText(str):
    """A text that can't be a key of a dict."""

    __hash__ = None


class OddText(str):
    """A text with another hash than its signs have."""

    def __hash__(self):
        return 12345


class WaywardText(str):
    """A text that is cut up and compared otherwise than its signs are."""

    def split(self, *args):
        return []

    def __eq__(self, other):
        return False

    def __ne__(self, other):
        return True

    __hash__ = str.__hash__


Pair = namedtuple("Pair", "part column")
BLANKS = ("\t", "\r", "\v", "\f", "\0", "\x1c", "\x85", "\u00a0", "\u2003", "\u2028", "\u3000")
OTHER_FIGURES = ("\u0663", "\u0967", "\uff15", "\u00b2", "\u2160", "\u2075", "\U0001d7d8", "\u4e00")


def no_keys():
    """Things that can't be a key of a dict."""
    return [[], ["a"], {}, {"a": "all"}, {"a", "b"}, bytearray(b"a"), ([],), ("a", [])]


def no_texts():
    return [None, True, False, 0, 1, -3, 1.5, 2j, b"a", (), ("a",), ("a", "all"), object(),
            int, len, frozenset("a"), iter("a"), Sly("a")] + no_keys()


def no_lists():
    return no_things_of(list)


def no_dicts():
    return no_things_of(dict)


def no_whole_numbers():
    return [True, False, None, "", "1", "a", 0.0, 1.0, float("nan"), float("inf"), 1j, b"1", (), (1,),
            object(), int, Sly(1)] + no_keys()


def no_things_of(kind):
    things = no_texts() + ["", "a", "all", ["a"], {"a": "all"}, {}, [], (["a"],), range(2)]
    return [thing for thing in things if not isinstance(thing, kind)]


def no_places():
    """Things of all kinds that are no place of the square."""
    return [("a",), ("a", "x", "x"), ("x", "a"), ("a", "z"), ("c", "x"), ("", ""), ("a", None), (None, "x"), ("a", 1),
            (Sly("a"), "x"), ("a", Sly("x")), Sly(("a", "x")), "ax", "a x", ["a", "x"],
            [("a", "x")], (("a", "x"),), ("A", "x"), ("a ", "x"), ("a", b"x"), ("a", ["x"]), "", "a", float("nan"),
            {("a", "x"): 1}, {"a", "x"}, range(2), (), ([],), ("a", []), ("all",), (("a", "all"), ("b", "x")),
            ] + [thing for thing in no_texts() if not isinstance(thing, tuple)]


def small_house():
    """The least house there is."""
    return House([("a", "all")], ["x"])


def land():
    """Parts under parts, rows at three depths, and a part with the name of a column."""
    return House(
        [("north", "all"), ("coast", "north"), ("sea", "all"), ("hill", "north"),
         ("bay", "coast"), ("cape", "coast")],
        ["old", "sea"],
    )


def land_cells():
    return {
        ("sea", "old"): 1, ("sea", "sea"): 20,
        ("hill", "old"): 300, ("hill", "sea"): 4000,
        ("bay", "old"): 50000, ("bay", "sea"): 600000,
        ("cape", "old"): 7000000, ("cape", "sea"): 80000000,
    }


def land_table():
    """The whole table of land_cells, reckoned by hand."""
    return {
        ("all", "old"): 7050301, ("all", "sea"): 80604020, ("all", "all"): 87654321,
        ("north", "old"): 7050300, ("north", "sea"): 80604000, ("north", "all"): 87654300,
        ("coast", "old"): 7050000, ("coast", "sea"): 80600000, ("coast", "all"): 87650000,
        ("sea", "old"): 1, ("sea", "sea"): 20, ("sea", "all"): 21,
        ("hill", "old"): 300, ("hill", "sea"): 4000, ("hill", "all"): 4300,
        ("bay", "old"): 50000, ("bay", "sea"): 600000, ("bay", "all"): 650000,
        ("cape", "old"): 7000000, ("cape", "sea"): 80000000, ("cape", "all"): 87000000,
    }


def same_house(test, house, other):
    for method in ("parts", "rows", "columns", "places", "cells"):
        test.assertEqual(getattr(house, method)(), getattr(other, method)())
    test.assertEqual([house.above(part) for part in house.parts()], [other.above(part) for part in other.parts()])
    for part in ["all"] + house.parts():
        test.assertEqual(house.beneath(part), other.beneath(part))


def is_house_text(text):
    """By the words of the document: rows of parts, then rows of columns, of names that make a house."""
    parts, columns = [], []
    for row in text.split("\n"):
        part = re.fullmatch(r"part ([a-z]{1,8})(?: in ([a-z]{1,8}))?", row)
        column = re.fullmatch(r"column ([a-z]{1,8})", row)
        if part and not columns:
            if part[1] in ["all"] + parts or part[2] is not None and part[2] not in parts:
                return False
            parts.append(part[1])
        elif column and column[1] not in ["all"] + columns:
            columns.append(column[1])
        else:
            return False
    return 1 <= len(parts) <= 24 and 1 <= len(columns) <= 8


def names(count):
    letters = "abcdefghijklmnopqrstuvwxyz"
    pairs = itertools.product(letters, letters)
    return [first + second for first, second in itertools.islice(pairs, count)]


def some_parts(chance, count):
    parts = []
    for name in names(count):
        parts.append((name, chance.choice(["all"] + [part for part, above in parts])))
    return parts


def some_houses(count):
    """Houses of all sizes; the same ones each time."""
    chance = random.Random(1)
    houses = [small_house(), land(), House([("a", "all")], names(8)),
              greatest_house(),
              House([("a", "all")] + list(zip(names(23), ["a"] + names(22))), ["x", "y"])]
    while len(houses) < count:
        parts = some_parts(chance, chance.randint(1, 24))
        houses.append(House(parts, names(chance.randint(1, 8))))
    return houses


def some_cells(chance, house):
    """Counts for all cells, of all sizes, in any order."""
    counts = {cell: chance.choice([0, 1, chance.randint(0, 99), 10 ** 18]) for cell in house.cells()}
    return {cell: counts[cell] for cell in shuffled(chance, counts)}


def odd_words_house():
    """Parts and columns that are called like the words of a house's text."""
    return House([("in", "all"), ("part", "in"), ("column", "part"), ("a", "in"), ("row", "all")],
                 ["column", "in", "part"])


def deepest_house(column_count=1):
    """Twenty-four parts, each beneath the one ahead of it."""
    return House(list(zip(names(24), ["all"] + names(23))), names(column_count))


def greatest_house():
    """Twenty-four rows and eight columns."""
    return House([(name, "all") for name in names(24)], names(8))


def told_by(office, places=None):
    """Everything that the office tells."""
    places = office.house().places() if places is None else places
    return [list(office.known().items()), office.shut(), list(office.secrets().items()), office.outs(),
            list(office.whole().items()), office.house().places(), [office.span(place) for place in places],
            [office.low_sums_of(place) for place in places], [office.high_sums_of(place) for place in places]]


def shuffled(chance, things):
    mixed = list(things)
    chance.shuffle(mixed)
    return mixed


def one_sign_off(text, signs):
    """The texts that lack one sign, have one more, or have another one at one place."""
    for at in range(len(text) + 1):
        for sign in signs:
            yield text[:at] + sign + text[at:]
            yield text[:at] + sign + text[at + 1:]
        yield text[:at] + text[at + 1:]


def dict_kinds(plain):
    """The same dict, of narrower kinds."""
    return [OrderedDict(plain), defaultdict(int, plain)]


def square():
    return House([("a", "all"), ("b", "all")], ["x", "y"])


def square_cells(*counts):
    return dict(zip(square().cells(), counts))


def square_table(*counts):
    return filled(square(), square_cells(*counts))


def square_office(secrets, counts=(5, 6, 7, 8)):
    return Office(square(), square_cells(*counts), secrets)


def small_houses():
    """Houses of up to six cells, of all shapes."""
    return [small_house(), square(), House([("a", "all")], ["x", "y", "z"]),
            House([("a", "all"), ("b", "a"), ("c", "b")], ["x", "y"]),
            House([("a", "all"), ("b", "all"), ("c", "all")], ["x", "y"]),
            House([("a", "all"), ("b", "a"), ("c", "a"), ("d", "all")], ["x", "y"]),
            House([("a", "all"), ("b", "a"), ("c", "a"), ("d", "b"), ("e", "b")], ["x"])]


def filled_by_ways(house, ways):
    """The whole table of cells that may be below 0: the sums are filled up from a table that is raised by 1."""
    raised = filled(house, {cell: way + 1 for cell, way in zip(house.cells(), ways)})
    ones = filled(house, dict.fromkeys(house.cells(), 1))
    return {place: raised[place] - ones[place] for place in raised}


def every_ring(house):
    """All rings of a small house, as dicts from places to ways: cells by 1, 0 or -1, and so all sums."""
    rings = []
    for ways in itertools.product((-1, 0, 1), repeat=len(house.cells())):
        counts = filled_by_ways(house, ways)
        if set(counts.values()) <= {-1, 0, 1}:
            rings.append({place: count for place, count in counts.items() if count})
    return rings


def whole(house, counts):
    """The whole table of counts for some cells, of any size, with 0 in the others."""
    table = dict.fromkeys(house.places(), 0)
    for cell, places in places_above(house).items():
        for place in places:
            table[place] += counts.get(cell, 0)
    return table


def reached(house, steps, first):
    """All sums that steps lead to from the one that the first step leads to, without its place."""
    ends = ends_of(house)
    links = [ends[place][::way] for place, way in steps if place != first[0]]
    found = {ends[first[0]][::first[1]][1]}
    while True:
        more = {goal for start, goal in links if start in found} - found
        if not more:
            return [one for one in sums_of(house) if one in found]
        found |= more


def places_above(house):
    """To each cell, all places whose numbers it is part of."""
    above = {}
    for row, column in house.cells():
        parts = [row]
        while parts[-1] != "all":
            parts.append(house.above(parts[-1]))
        above[(row, column)] = [(part, one) for part in parts for one in (column, "all")]
    return above


def every_agreeing(house, numbers):
    """All whole tables that have the known numbers, and whose cells are no greater than these added up, and one more.

    The numbers of some least and of some greatest table are known numbers, added up and taken from one another, so
    such tables are among these; and so is one that has more than all known numbers together, just where there is no
    greatest.
    """
    most = sum(numbers.values()) + 1
    partial = [dict.fromkeys(house.places(), 0)]
    for cell, places in places_above(house).items():
        bounded = [place for place in places if place in numbers]
        partial = [{**table, **{place: table[place] + count for place in places}} for table in partial
                   for count in range(1 + min([numbers[place] - table[place] for place in bounded] + [most]))]
    return [table for table in partial if all(table[place] == number for place, number in numbers.items())]


def searched_spans(house, numbers):
    """The span of each place, by a search over all whole tables that agree."""
    tables, most = every_agreeing(house, numbers), sum(numbers.values())
    spans = {}
    for place in house.places():
        found = [table[place] for table in tables]
        spans[place] = (min(found), max(found) if max(found) <= most else None)
    return spans


def can_be_searched(house, numbers):
    """Whether the tables to be looked at are not too many."""
    most, count = sum(numbers.values()) + 2, 1
    for places in places_above(house).values():
        count *= min([numbers[place] + 1 for place in places if place in numbers] + [most])
    return count <= 3000


def some_searchable(chance, house, count):
    """Tuples of a table of small counts and of known places, of which all tables that agree can be searched."""
    while count:
        table = filled(house, {cell: chance.choice([0, 1, 1, 2, 3]) for cell in house.cells()})
        known = some_known(chance, house)
        if can_be_searched(house, numbers_of(house, table, known)):
            count -= 1
            yield table, known


def some_known(chance, house):
    """Some places in any order, from none to all."""
    places = shuffled(chance, house.places())
    return places[:chance.choice([0, len(places) - 1, len(places), chance.randint(0, len(places))])]


def numbers_of(house, table, known):
    return {place: table[place] for place in house.places() if place in known}


def given(house, sums):
    """What sums give to all places, added up one by one as the document says it."""
    counts = dict.fromkeys(house.places(), 0)
    for one in sums:
        column_down = one[0] == "down" and one[2] != "all"
        sign = 1 if column_down or one == ("across", "all") else -1
        counts[whole_of(house, one)] += sign
        for place in others_of(house, one):
            counts[place] -= sign
    return counts


def reckoned(house, numbers, place, sums):
    """The tuple (at least, at most) that sums show of a place, as the document says it."""
    if place in numbers:
        return (None, None) if sums else (numbers[place], numbers[place])
    if not sums:
        return (0, None)
    counts = given(house, sums)
    own = counts[place]
    others = {counts[one] for one in house.places() if one != place and one not in numbers}
    number = sum(numbers[one] * counts[one] for one in numbers) * (-1 if own == 1 else 1)
    return (number if own and others <= {-own, 0} else None, number if own and others <= {own, 0} else None)


def sums_in(text):
    """The sums of one side of what the desk shows."""
    return [tuple(words.split(" ")) for words in text.split("; ")] if text else []


@contextmanager
def within(seconds):
    """Fails what takes longer, in the stead of waiting for it."""
    def stop(number, frame):
        raise AssertionError(f"not answered within {seconds} seconds")

    before = signal.signal(signal.SIGALRM, stop)
    left = signal.alarm(seconds)
    try:
        yield
    finally:
        signal.alarm(0)
        signal.signal(signal.SIGALRM, before)
        # One round this one goes on with what it had left.
        signal.alarm(left)


class Checked(unittest.TestCase):
    def setUp(self):
        self.enterContext(within(100))

    def refuse(self, error, ask, *things):
        with self.assertRaises(error) as caught:
            ask(*things)
        self.assertIs(caught.exception.__class__, error)
        return caught.exception

    def check_ring(self, house, ring):
        """That it is a ring: changed by it, each sum of whatever whole table still holds."""
        self.assertIs(ring.__class__, list)
        for step in ring:
            self.assertIs(step.__class__, tuple)
            self.assertIs(step[0].__class__, tuple)
            self.assertIs(step[1].__class__, int)
            self.assertIn(step[1], (1, -1))
            self.assertIn(step[0], house.places())
        self.assertEqual(len(dict(ring)), len(ring))
        table = filled(house, dict.fromkeys(house.cells(), 7))
        for place, way in ring:
            table[place] += 5 * way
        self.assertTrue(is_table(house, table), ring)

    def check_agreeing(self, house, table, known, told):
        """That it is a whole table in the order of places, and has the known numbers."""
        self.assertIs(told.__class__, dict)
        self.assertEqual(list(told), house.places())
        self.assertTrue(is_table(house, told))
        self.assertEqual(numbers_of(house, told, known), numbers_of(house, table, known))
