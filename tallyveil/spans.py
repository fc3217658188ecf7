"""Spans: the least and the greatest that a number can be to one who knows some of the others."""

from tallyveil.houses import all_but
from tallyveil.rings import Web, changed, free_through, shortest_ring


def span(house, table, known, place):
    web = web_of(house, known)
    least = furthest(house, web, table, (place, -1))[place]
    if free_within(web, place) is not None:
        return (least, None)
    return (least, furthest(house, web, table, (place, 1))[place])


def least_table(house, table, known, place):
    return furthest(house, web_of(house, known), table, (place, -1))


def greatest_table(house, table, known, place):
    web = web_of(house, known)
    if free_within(web, place) is not None:
        return None
    return furthest(house, web, table, (place, 1))


def free_ring(house, table, known, place):
    return free_within(web_of(house, known), place)


def web_of(house, known):
    return Web(house, all_but(house, known))


def free_within(web, place):
    return free_through(web, place) if place in web.ends else None


# Shortest rings first: so there are no more of them than places and sums bring about, however great the counts are.
# Where a free ring goes the same way there is no end to it, so it is not asked then.
def furthest(house, web, table, first, enough=None):
    told = changed(house, table, [], 0)
    while not is_enough(told, table, first[0], enough):
        ring = ring_within(web, told, first)
        if ring is None:
            return told
        told = changed(house, told, ring, room_of(told, ring))
    return told


def ring_within(web, table, first):
    return shortest_ring(web, table, first) if first[0] in web.ends else None


def is_enough(told, table, place, enough):
    return enough is not None and abs(told[place] - table[place]) >= enough


def room_of(table, ring):
    return min([table[place] for place, way in ring if way == -1])


# Each secret is asked for at each letting out, so this goes no further up and down than the width needs.
def is_wide(house, web, table, place, width):
    if free_within(web, place) is not None:
        return True
    greatest = furthest(house, web, table, (place, 1), width)[place]
    rest = width - (greatest - table[place])
    least = furthest(house, web, table, (place, -1), rest)[place]
    return greatest - least >= width
