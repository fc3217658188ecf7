"""Whole tables: whether a dict is one, and the one that counts are filled up to."""

from tallyveil.errors import NoTable
from tallyveil.houses import ALL, is_whole


def is_table(house, numbers):
    if not has_just(numbers, house.places(), is_number):
        return False
    return sums_down_hold(house, numbers) and sums_across_hold(house, numbers)


def filled(house, cells):
    if not has_just(cells, house.cells(), is_count):
        raise NoTable("this is no dict from just the cells to counts from 0 to 10 ** 18")
    table = {}
    for place in house.places():
        table[place] = 0
    for row, column in house.cells():
        for part in line_up(house, row):
            table[(part, column)] += cells[(row, column)]
            table[(part, ALL)] += cells[(row, column)]
    return table


def is_number(thing):
    return is_whole(thing) and thing >= 0


def is_count(thing):
    return is_number(thing) and thing <= 10 ** 18


def has_just(thing, places, fits):
    if not isinstance(thing, dict) or len(thing) != len(places):
        return False
    # Keys of other kinds may fail when they are compared with a place.
    if not all([isinstance(key, tuple) for key in thing]):
        return False
    # Asked by get, since an index may put a lacking key into a dict of a narrower kind.
    return all([fits(thing.get(place)) for place in places])


def sums_down_hold(house, numbers):
    for part in [ALL] + house.parts():
        beneath = house.beneath(part)
        for column in house.columns() + [ALL]:
            total = sum([numbers[(lower, column)] for lower in beneath])
            if beneath and numbers[(part, column)] != total:
                return False
    return True


def sums_across_hold(house, numbers):
    for part in [ALL] + house.rows():
        total = sum([numbers[(part, column)] for column in house.columns()])
        if numbers[(part, ALL)] != total:
            return False
    return True


def line_up(house, row):
    line = [row]
    while line[-1] != ALL:
        line.append(house.above(line[-1]))
    return line
