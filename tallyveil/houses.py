"""Houses of counts: their parts and columns, and the places these make."""

from tallyveil.errors import NoHouse, NoPlace

ALL = "all"


def is_whole(thing):
    return isinstance(thing, int) and not isinstance(thing, bool)


def is_name(thing):
    if not isinstance(thing, str) or not 1 <= len(thing) <= 8:
        return False
    return thing != ALL and all(["a" <= sign <= "z" for sign in thing])


class House:
    def __init__(self, parts, columns):
        self.above_of = checked_parts(parts)
        self.column_names = checked_columns(columns)
        self.beneath_of = turned_about(self.above_of)

    def parts(self):
        return list(self.above_of)

    def rows(self):
        return [part for part in self.above_of if not self.beneath_of[part]]

    def columns(self):
        return list(self.column_names)

    def above(self, part):
        return self.above_of[part]

    def beneath(self, part):
        return list(self.beneath_of[part])

    def places(self):
        return paired([ALL] + self.parts(), self.column_names + [ALL])

    def cells(self):
        return paired(self.rows(), self.column_names)


def checked_parts(parts):
    if not isinstance(parts, list) or not 1 <= len(parts) <= 24:
        raise NoHouse("the parts are no list of 1 to 24")
    above_of = {}
    for part in parts:
        if not isinstance(part, tuple) or len(part) != 2:
            raise NoHouse("a part is no tuple of its name and the one above it")
        name = checked_name(part[0], list(above_of))
        # The part itself is not among those ahead of it yet, so it can't be above itself.
        above = checked_above(part[1], list(above_of))
        above_of[name] = above
    return above_of


def checked_columns(columns):
    if not isinstance(columns, list) or not 1 <= len(columns) <= 8:
        raise NoHouse("the columns are no list of 1 to 8")
    names = []
    for column in columns:
        names.append(checked_name(column, names))
    return names


def checked_name(thing, ahead):
    if not is_name(thing):
        raise NoHouse("a part or a column has no name")
    name = plain_text(thing)
    if name in ahead:
        raise NoHouse("two parts, or two columns, have one name")
    return name


def checked_above(thing, ahead):
    if not isinstance(thing, str):
        raise NoHouse("what is above a part is no text")
    above = plain_text(thing)
    if above != ALL and above not in ahead:
        raise NoHouse("what is above a part is no part ahead of it")
    return above


def plain_text(text):
    # A text of a narrower kind may be no key of a dict, or not the key that its signs are.
    return "".join(list(text))


def plain_place(thing):
    # What is made of other things than two texts may fail when it is compared with a place, or looked up.
    if not isinstance(thing, tuple) or len(thing) != 2:
        return None
    if not all([isinstance(word, str) for word in thing]):
        return None
    return (plain_text(thing[0]), plain_text(thing[1]))


def checked_place(house, thing):
    place = plain_place(thing)
    if place not in house.places():
        raise NoPlace("this is no place of the house")
    return place


def among(house, places):
    marks = marked(places)
    return [place for place in house.places() if place in marks]


def all_but(house, places):
    marks = marked(places)
    return [place for place in house.places() if place not in marks]


def marked(places):
    marks = {}
    for place in places:
        marks[place] = True
    return marks


def turned_about(above_of):
    beneath_of = {ALL: []}
    for part in above_of:
        beneath_of[part] = []
    for part, above in above_of.items():
        beneath_of[above].append(part)
    return beneath_of


def paired(parts, columns):
    pairs = []
    for part in parts:
        for column in columns:
            pairs.append((part, column))
    return pairs
