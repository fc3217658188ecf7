"""Papers: sums by which anybody can add up that a number is no less, or no more, than told."""

from tallyveil.rings import reached
from tallyveil.spans import free_within, furthest, web_of
from tallyveil.sums import added, sums_of


def at_most(house, numbers, place, sums):
    if not sums:
        return numbers.get(place)
    return shown(house, numbers, place, sums, 1)


def at_least(house, numbers, place, sums):
    if not sums:
        return numbers.get(place, 0)
    return shown(house, numbers, place, sums, -1)


def sums_below(house, table, known, place):
    web = web_of(house, known)
    low = furthest(house, web, table, (place, -1))
    # Nothing need be added up to show that a number is at least 0, or that a known one is what it is.
    if place not in web.ends or low[place] == 0:
        return []
    return sums_reached(house, web, low, (place, -1))


def sums_above(house, table, known, place):
    web = web_of(house, known)
    if place not in web.ends:
        return []
    if free_within(web, place) is not None:
        return None
    high = furthest(house, web, table, (place, 1))
    return sums_reached(house, web, high, (place, 1))


# All numbers, each multiplied by what its place has, come to 0. So an unknown number from 0 on that has the same as the
# place can only leave it less, and one that has what is opposite can only leave it more.
def shown(house, numbers, place, sums, likeness):
    counts = added(house, sums)
    if place in numbers or place not in counts:
        return None
    own = counts[place]
    total = 0
    for one, count in counts.items():
        if one in numbers:
            total += numbers[one] * count
        elif one != place and count != own * likeness:
            return None
    return -own * total


# Where the place can't go its way any further, no step leads out of the sums that are reached: so each other place that
# stays in, and that they give something, leads into them and has 0 there. What is shown is just the number.
def sums_reached(house, web, table, first):
    came_by = reached(web, table, first)
    return [one for one in sums_of(house) if one in came_by]
