"""Wishes: what of a list of places could be let out, and what must stay in."""

from tallyveil.houses import checked_place, marked
from tallyveil.office import first_not_kept


def parted(office, wish):
    house = office.house()
    wanted = marked([checked_place(house, thing) for thing in wish])
    known = list(office.known())
    going = []
    staying = []
    for place in wanted:
        if can_go_out(office, known + going, place):
            going.append(place)
        else:
            staying.append(place)
    return (going, staying)


def can_go_out(office, known, place):
    if place in known:
        return True
    secrets = office.secrets()
    if place in secrets:
        return False
    return first_not_kept(office.house(), office.whole(), known + [place], secrets) is None
