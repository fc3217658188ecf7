"""Books: all deeds of an office as a text, written and read; and what an outsider gets."""

from tallyveil.errors import NoText, VeilError
from tallyveil.office import Office
from tallyveil.texts import checked_text, read_figures, read_house, show_house, show_numbers


def written(office):
    house = office.house()
    table = office.whole()
    told = [show_house(house)]
    for part in house.rows():
        counts = [str(table[(part, column)]) for column in house.columns()]
        told.append(" ".join(["row", part] + counts))
    for place, width in office.secrets().items():
        told.append(" ".join(["secret"] + words_of([place]) + [str(width)]))
    for places in office.outs():
        told.append(" ".join(["out"] + words_of(places)))
    return "\n".join(told)


def read_book(text):
    signs = checked_text(text)
    office = office_of(rows_by_word(signs))
    # Rows out of their order, and rows or secrets that come twice, make an office of which another book is written.
    if written(office) != signs:
        raise NoText("the rows of a book are not as they are written")
    return office


def handout(office):
    return show_numbers(office.house(), office.known())


def words_of(places):
    words = []
    for place in places:
        words.extend(list(place))
    return words


def places_in(words):
    return [(words[turn], words[turn + 1]) for turn in range(0, len(words), 2)]


# Rows with any other word are left to the house: there they are refused, if they are none of its own.
def rows_by_word(signs):
    rows_of = {"house": [], "row": [], "secret": [], "out": []}
    for row in signs.split("\n"):
        words = row.split(" ")
        if words[0] in ("row", "secret", "out"):
            rows_of[words[0]].append(words[1:])
        else:
            rows_of["house"].append(row)
    return rows_of


def office_of(rows_of):
    house = read_house("\n".join(rows_of["house"]))
    cells = read_cells(house.columns(), rows_of["row"])
    secrets = read_secrets(rows_of["secret"])
    lists = [read_out(words) for words in rows_of["out"]]
    try:
        office = Office(house, cells, secrets)
        for places in lists:
            office.let_out(places)
    except VeilError as e:
        raise NoText("a deed of the book would be refused") from e
    return office


def read_cells(columns, rows):
    cells = {}
    for words in rows:
        if len(words) != 1 + len(columns):
            raise NoText("a row of counts has not one for each column")
        for column, word in zip(columns, words[1:]):
            cells[(words[0], column)] = read_figures(word)
    return cells


def read_secrets(rows):
    secrets = {}
    for words in rows:
        if len(words) != 3:
            raise NoText("a secret has not just a place and a width")
        secrets[(words[0], words[1])] = read_figures(words[2])
    return secrets


def read_out(words):
    if len(words) % 2 != 0:
        raise NoText("a list that was let out has half a place")
    return places_in(words)
