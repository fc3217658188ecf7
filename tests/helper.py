"""What several tests need: houses to ask of, and things of many kinds to be refused."""

import itertools
import random
from collections import OrderedDict, defaultdict, namedtuple

from tallyveil.houses import House


class Sly:
    """Claims to be a place by its hash, and fails whoever compares or shows it."""

    def __init__(self, like):
        self.like = like

    def __hash__(self):
        return hash(self.like)

    def __eq__(self, other):
        raise RuntimeError("compared")

    def __repr__(self):
        raise RuntimeError("shown")


class KeylessText(str):
    """A text that can't be a key of a dict."""

    __hash__ = None


class OddText(str):
    """A text with another hash than its signs have."""

    def __hash__(self):
        return 12345


class WaywardText(str):
    """A text that is cut up and compared otherwise than its signs are."""

    def split(self, *args):
        return []

    def __eq__(self, other):
        return False

    def __ne__(self, other):
        return True

    __hash__ = str.__hash__


Pair = namedtuple("Pair", "part column")


def no_keys():
    """Things that can't be a key of a dict."""
    return [[], ["a"], {}, {"a": "all"}, {"a", "b"}, bytearray(b"a"), ([],), ("a", [])]


def no_texts():
    return [None, True, False, 0, 1, -3, 1.5, 2j, b"a", (), ("a",), ("a", "all"), object(),
            int, len, frozenset("a"), iter("a"), Sly("a")] + no_keys()


def no_lists():
    return no_things_of(list)


def no_dicts():
    return no_things_of(dict)


def no_whole_numbers():
    return [True, False, None, "", "1", "a", 0.0, 1.0, float("nan"), float("inf"), 1j, b"1", (), (1,),
            object(), int, Sly(1)] + no_keys()


def no_things_of(kind):
    things = no_texts() + ["", "a", "all", ["a"], {"a": "all"}, {}, [], (["a"],), range(2)]
    return [thing for thing in things if not isinstance(thing, kind)]


def small_house():
    """The least house there is."""
    return House([("a", "all")], ["x"])


def land():
    """Parts under parts, rows at three depths, and a part with the name of a column."""
    return House(
        [("north", "all"), ("coast", "north"), ("sea", "all"), ("hill", "north"),
         ("bay", "coast"), ("cape", "coast")],
        ["old", "sea"],
    )


def land_cells():
    return {
        ("sea", "old"): 1, ("sea", "sea"): 20,
        ("hill", "old"): 300, ("hill", "sea"): 4000,
        ("bay", "old"): 50000, ("bay", "sea"): 600000,
        ("cape", "old"): 7000000, ("cape", "sea"): 80000000,
    }


def land_table():
    """The whole table of land_cells, reckoned by hand."""
    return {
        ("all", "old"): 7050301, ("all", "sea"): 80604020, ("all", "all"): 87654321,
        ("north", "old"): 7050300, ("north", "sea"): 80604000, ("north", "all"): 87654300,
        ("coast", "old"): 7050000, ("coast", "sea"): 80600000, ("coast", "all"): 87650000,
        ("sea", "old"): 1, ("sea", "sea"): 20, ("sea", "all"): 21,
        ("hill", "old"): 300, ("hill", "sea"): 4000, ("hill", "all"): 4300,
        ("bay", "old"): 50000, ("bay", "sea"): 600000, ("bay", "all"): 650000,
        ("cape", "old"): 7000000, ("cape", "sea"): 80000000, ("cape", "all"): 87000000,
    }


def names(count):
    letters = "abcdefghijklmnopqrstuvwxyz"
    pairs = itertools.product(letters, letters)
    return [first + second for first, second in itertools.islice(pairs, count)]


def some_parts(chance, count):
    parts = []
    for name in names(count):
        parts.append((name, chance.choice(["all"] + [part for part, above in parts])))
    return parts


def some_houses(count):
    """Houses of all sizes; the same ones each time."""
    chance = random.Random(1)
    houses = [small_house(), land(), House([("a", "all")], names(8)),
              greatest_house(),
              House([("a", "all")] + list(zip(names(23), ["a"] + names(22))), ["x", "y"])]
    while len(houses) < count:
        parts = some_parts(chance, chance.randint(1, 24))
        houses.append(House(parts, names(chance.randint(1, 8))))
    return houses


def some_cells(chance, house):
    """Counts for all cells, of all sizes, in any order."""
    counts = {cell: chance.choice([0, 1, chance.randint(0, 99), 10 ** 18]) for cell in house.cells()}
    return {cell: counts[cell] for cell in shuffled(chance, counts)}


def odd_words_house():
    """Parts and columns that are called like the words of a house's text."""
    return House([("in", "all"), ("part", "in"), ("column", "part"), ("a", "in"), ("row", "all")],
                 ["column", "in", "part"])


def deepest_house(column_count=1):
    """Twenty-four parts, each beneath the one ahead of it."""
    return House(list(zip(names(24), ["all"] + names(23))), names(column_count))


def greatest_house():
    """Twenty-four rows and eight columns."""
    return House([(name, "all") for name in names(24)], names(8))


def shuffled(chance, things):
    mixed = list(things)
    chance.shuffle(mixed)
    return mixed


def one_sign_off(text, signs):
    """The texts that lack one sign, have one more, or have another one at one place."""
    for at in range(len(text) + 1):
        for sign in signs:
            yield text[:at] + sign + text[at:]
            yield text[:at] + sign + text[at + 1:]
        yield text[:at] + text[at + 1:]


def dict_kinds(plain):
    """The same dict, of narrower kinds."""
    return [OrderedDict(plain), defaultdict(int, plain)]
