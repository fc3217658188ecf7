"""The sums of a house, and what they give to its places when they are added up."""

from tallyveil.houses import ALL

DOWN = "down"
ACROSS = "across"


def sums_of(house):
    sums = []
    for part in [ALL] + house.parts():
        if house.beneath(part):
            sums.extend([(DOWN, part, column) for column in house.columns() + [ALL]])
    return sums + [(ACROSS, part) for part in [ALL] + house.rows()]


def whole_of(house, one):
    return (one[1], one[2]) if one[0] == DOWN else (one[1], ALL)


def others_of(house, one):
    if one[0] == DOWN:
        return [(part, one[2]) for part in house.beneath(one[1])]
    return [(one[1], column) for column in house.columns()]


def added(house, sums):
    counts = {}
    for one in sums:
        for place, count in given_by(house, one):
            counts[place] = counts.get(place, 0) + count
    told = {}
    for place in house.places():
        if counts.get(place, 0) != 0:
            told[place] = counts[place]
    return told


def ends_of(house):
    givers = {}
    for one in sums_of(house):
        for place, count in given_by(house, one):
            givers[(place, count)] = one
    ends = {}
    for place in house.places():
        ends[place] = (givers[(place, 1)], givers[(place, -1)])
    return ends


def given_by(house, one):
    sign = sign_of(one)
    return [(whole_of(house, one), sign)] + [(place, -sign) for place in others_of(house, one)]


def sign_of(one):
    if one[0] == DOWN:
        return -1 if one[2] == ALL else 1
    return 1 if one[1] == ALL else -1
