"""Rings: places that can be raised and lowered together so that all sums still hold."""

from tallyveil.errors import NoPlace, TooFar
from tallyveil.houses import is_whole, plain_place
from tallyveil.sums import ends_of


def changed(house, table, ring, amount):
    told = {}
    for place in house.places():
        told[place] = table[place]
    for place, way in ring:
        told[place] += way * amount
        if told[place] < 0:
            raise TooFar(f"the number of {place!r} would go below 0")
    return told


def ring_through(house, table, open_places, place, way):
    if not is_whole(way) or way not in (1, -1):
        raise NoPlace("the way is neither 1 nor -1")
    opened = opened_of(house, open_places)
    start = plain_place(place)
    if start not in opened:
        raise NoPlace("the place may not change")
    ends = ends_of(house)
    raising = [(one, 1) for one in opened]
    lowering = [(one, -1) for one in opened if table[one] >= 1]
    if way == 1:
        free = shortest_ring(ends, raising, (start, 1))
        return free if free is not None else shortest_ring(ends, raising + lowering, (start, 1))
    if (start, -1) not in lowering:
        return None
    return shortest_ring(ends, raising + lowering, (start, -1))


def opened_of(house, open_places):
    wanted = {}
    for place in open_places:
        wanted[place] = True
    return [place for place in house.places() if place in wanted]


# A step leads from the sum that gives its place 1 to the one that gives it -1, or back where the place is lowered. What
# it changes in the sum that it leaves is weighed up by the step that comes there; so a walk round is a ring.
def shortest_ring(ends, steps, first):
    steps_from = {}
    for step in steps:
        if step[0] != first[0]:
            steps_from.setdefault(start_of(ends, step), []).append(step)
    walk = shortest_walk(ends, steps_from, goal_of(ends, first), start_of(ends, first))
    return None if walk is None else [first] + walk


def shortest_walk(ends, steps_from, start, goal):
    came_by = {start: None}
    line = [start]
    turn = 0
    while turn < len(line) and goal not in came_by:
        here = line[turn]
        for step in steps_from.get(here, []):
            one = goal_of(ends, step)
            if one not in came_by:
                came_by[one] = step
                line.append(one)
        turn += 1
    return walked_back(ends, came_by, goal) if goal in came_by else None


def walked_back(ends, came_by, goal):
    walk = []
    one = goal
    while came_by[one] is not None:
        walk.append(came_by[one])
        one = start_of(ends, came_by[one])
    return list(reversed(walk))


def start_of(ends, step):
    return ends[step[0]][0 if step[1] == 1 else 1]


def goal_of(ends, step):
    return ends[step[0]][1 if step[1] == 1 else 0]
