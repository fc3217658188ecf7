"""Texts of houses, and of the numbers of a table, written and read."""

from tallyveil.errors import NoHouse, NoText
from tallyveil.houses import ALL, House, plain_text

UNTOLD = "*"
MOST_FIGURES = 40


def show_house(house):
    rows = []
    for part in house.parts():
        above = house.above(part)
        rows.append(f"part {part}" if above == ALL else f"part {part} in {above}")
    for column in house.columns():
        rows.append(f"column {column}")
    return "\n".join(rows)


def read_house(text):
    signs = checked_text(text)
    parts = []
    columns = []
    for row in signs.split("\n"):
        words = row.split(" ")
        if words[0] == "part":
            parts.append(read_part(words))
        else:
            columns.append(read_column(words))
    house = house_of(parts, columns)
    # Rows out of their order, and a part that is said to be in all, make a house that is written otherwise.
    if show_house(house) != signs:
        raise NoText("the rows of a house are not as they are written")
    return house


def show_numbers(house, numbers):
    rows = []
    for part in [ALL] + house.parts():
        words = [show_number(numbers, (part, column)) for column in house.columns()]
        total = show_number(numbers, (part, ALL))
        rows.append(" ".join([f"{part}:"] + words + ["=", total]))
    return "\n".join(rows)


def read_numbers(house, text):
    parts = [ALL] + house.parts()
    columns = house.columns() + [ALL]
    rows = checked_text(text).split("\n")
    if len(rows) != len(parts):
        raise NoText("there is not just one row for each part and for all")
    numbers = {}
    for part, row in zip(parts, rows):
        for column, word in zip(columns, number_words(part, len(columns), row)):
            if word != UNTOLD:
                numbers[(part, column)] = read_figures(word)
    return numbers


def checked_text(thing):
    if not isinstance(thing, str):
        raise NoText("this is no text")
    return plain_text(thing)


def read_part(words):
    if len(words) == 2:
        return (words[1], ALL)
    if len(words) == 4 and words[2] == "in":
        return (words[1], words[3])
    raise NoText("a row of a part is neither a name nor a name in another")


def read_column(words):
    if len(words) != 2 or words[0] != "column":
        raise NoText("a row of a house is neither of a part nor of a column")
    return words[1]


def house_of(parts, columns):
    try:
        return House(parts, columns)
    except NoHouse as e:
        raise NoText("the rows make no house") from e


def show_number(numbers, place):
    # Asked by get, since an index may put a lacking key into a dict of a narrower kind.
    number = numbers.get(place)
    return UNTOLD if number is None else str(number)


def number_words(part, count, row):
    words = row.split(" ")
    # The name and the `=` are words beside those of the numbers.
    if len(words) != count + 2 or words[0] != f"{part}:" or words[-2] != "=":
        raise NoText("a row of numbers has not the words of its part")
    return words[1:-2] + words[-1:]


def read_figures(word):
    if not is_figures(word):
        raise NoText("a number is not written by 1 to 40 figures without a nought ahead")
    return int(word)


def is_figures(word):
    if not 1 <= len(word) <= MOST_FIGURES:
        return False
    # Python takes figures of other scripts for figures too.
    if not all(["0" <= sign <= "9" for sign in word]):
        return False
    return word == "0" or word[0] != "0"
