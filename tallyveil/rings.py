"""Rings: places that can be raised and lowered together so that all sums still hold."""

from tallyveil.errors import NoPlace, TooFar
from tallyveil.houses import among, is_whole, plain_place
from tallyveil.sums import ends_of


# A step leads from the sum that gives its place 1 to the one that gives it -1, or back where the place is lowered. What
# it changes in the sum that it leaves is weighed up by the step that comes there; so a walk round is a ring.
class Web:
    def __init__(self, house, open_places):
        ends = ends_of(house)
        self.ends = {}
        self.steps_from = {}
        for place in among(house, open_places):
            self.ends[place] = ends[place]
            for step in ((place, 1), (place, -1)):
                steps = self.steps_from.setdefault(start_of(ends, step), [])
                steps.append((step, goal_of(ends, step)))


def changed(house, table, ring, amount):
    told = {}
    for place in house.places():
        told[place] = table[place]
    for place, way in ring:
        told[place] += way * amount
        if told[place] < 0:
            raise TooFar(f"the number of {place!r} would go below 0")
    return told


def ring_through(house, table, open_places, place, way):
    if not is_whole(way) or way not in (1, -1):
        raise NoPlace("the way is neither 1 nor -1")
    web = Web(house, open_places)
    start = plain_place(place)
    if start not in web.ends:
        raise NoPlace("the place may not change")
    free = free_through(web, start) if way == 1 else None
    return free if free is not None else shortest_ring(web, table, (start, way))


def free_through(web, place):
    # Where nothing can be lowered, free rings are the only ones.
    nothing = {}
    for one in web.ends:
        nothing[one] = 0
    return shortest_ring(web, nothing, (place, 1))


def shortest_ring(web, table, first):
    if not can_go(table, first):
        return None
    came_by = reached(web, table, first)
    one = start_of(web.ends, first)
    if one not in came_by:
        return None
    walk = []
    while came_by[one] is not None:
        walk.append(came_by[one])
        one = start_of(web.ends, came_by[one])
    return [first] + list(reversed(walk))


# The walk ends at the sum from which the first step starts, since there the ring is closed. Where it is never reached,
# all sums that are reached are told: they show that there is no ring.
def reached(web, table, first):
    goal = start_of(web.ends, first)
    start = goal_of(web.ends, first)
    came_by = {start: None}
    line = [start]
    turn = 0
    while turn < len(line) and goal not in came_by:
        here = line[turn]
        for step, one in web.steps_from.get(here, []):
            if one not in came_by and step[0] != first[0] and can_go(table, step):
                came_by[one] = step
                line.append(one)
        turn += 1
    return came_by


def can_go(table, step):
    return step[1] == 1 or table[step[0]] >= 1


def start_of(ends, step):
    return ends[step[0]][0 if step[1] == 1 else 1]


def goal_of(ends, step):
    return ends[step[0]][1 if step[1] == 1 else 0]
