"""Rounding: each number of a whole table goes to a multiple of a base next to it, and all sums still hold."""

from tallyveil.errors import NoBase
from tallyveil.rings import Web, changed, shortest_ring
from tallyveil.tables import is_count


# A sum in which all numbers but one are multiples of the base would make that one a multiple, too. So is it with sums
# added up, and each place whose number is none lies on a ring of such places. Changed by it until one of them is a
# multiple, none goes beyond the multiples next to it.
def rounded(house, table, base):
    if not is_count(base) or base == 0:
        raise NoBase("the base is no whole number from 1 to 10 ** 18")
    told = changed(house, table, [], 0)
    uneven = uneven_places(told, base)
    while uneven:
        ring = shortest_ring(Web(house, uneven), told, (uneven[0], 1))
        told = changed(house, told, ring, way_to_go(told, ring, base))
        uneven = uneven_places(told, base)
    return told


def uneven_places(table, base):
    return [place for place, number in table.items() if number % base != 0]


def way_to_go(table, ring, base):
    return min([-way * table[place] % base for place, way in ring])
