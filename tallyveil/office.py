"""An office: it keeps a table and its secrets, and lets out numbers as long as the secrets are kept."""

from tallyveil.errors import NoSecret, Pinned, Secret
from tallyveil.houses import all_but, among, checked_place, plain_place
from tallyveil.papers import sums_above, sums_below
from tallyveil.spans import is_wide, span, web_of
from tallyveil.tables import filled, is_count


class Office:
    def __init__(self, house, cells, secrets):
        self.kept_house = house
        self.table = filled(house, cells)
        self.width_of = checked_secrets(house, secrets)
        self.let_lists = []
        self.known_places = []

    def let_out(self, places):
        wanted = [checked_place(self.kept_house, thing) for thing in places]
        for place in wanted:
            if place in self.width_of:
                raise Secret(place)
        would = among(self.kept_house, self.known_places + wanted)
        # Each secret is kept beside what is known already, and a book may tell that again a thousand times.
        if would != self.known_places:
            check_kept(self.kept_house, self.table, would, self.width_of)
        self.known_places = would
        self.let_lists.append(wanted)

    def known(self):
        numbers = {}
        for place in self.known_places:
            numbers[place] = self.table[place]
        return numbers

    def shut(self):
        return all_but(self.kept_house, self.known_places)

    def span(self, place):
        asked = checked_place(self.kept_house, place)
        return span(self.kept_house, self.table, self.known_places, asked)

    def low_sums_of(self, place):
        asked = checked_place(self.kept_house, place)
        return sums_below(self.kept_house, self.table, self.known_places, asked)

    def high_sums_of(self, place):
        asked = checked_place(self.kept_house, place)
        return sums_above(self.kept_house, self.table, self.known_places, asked)

    def house(self):
        return self.kept_house

    def secrets(self):
        return dict(self.width_of)

    def outs(self):
        return [list(places) for places in self.let_lists]

    def whole(self):
        return dict(self.table)


def checked_secrets(house, secrets):
    if not isinstance(secrets, dict):
        raise NoSecret("the secrets are no dict")
    places = house.places()
    widths = {}
    for thing, width in secrets.items():
        place = plain_place(thing)
        if place not in places or not is_width(width):
            raise NoSecret("a secret is no place of the house with a width from 1 to 10 ** 18")
        widths[place] = width
    told = {}
    for place in among(house, widths):
        told[place] = widths[place]
    return told


def is_width(thing):
    return is_count(thing) and thing >= 1


def check_kept(house, table, known, secrets):
    place = first_not_kept(house, table, known, secrets)
    if place is not None:
        least_greatest = span(house, table, known, place)
        low_sums = sums_below(house, table, known, place)
        high_sums = sums_above(house, table, known, place)
        raise Pinned(place, least_greatest[0], least_greatest[1], low_sums, high_sums)


def first_not_kept(house, table, known, secrets):
    web = web_of(house, known)
    for place, width in secrets.items():
        if not is_wide(house, web, table, place, width):
            return place
    return None
