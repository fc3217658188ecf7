"""The desk: it is told rows, one at a time, and answers each with a text."""

from tallyveil.books import handout, places_in, read_book, words_of, written
from tallyveil.errors import NoRow
from tallyveil.houses import plain_text
from tallyveil.rounding import rounded
from tallyveil.texts import is_figures, show_numbers
from tallyveil.wishes import parted

DONE = "ok"
NO_GREATEST = "-"
BETWEEN_ROWS = " ; "


class Desk:
    def __init__(self):
        self.office = None

    def say(self, row):
        words = checked_words(row)
        if words[0] == "open":
            self.office = read_book(" ".join(words[1:]).replace(BETWEEN_ROWS, "\n"))
            return DONE
        if self.office is None:
            raise NoRow("no office was opened yet")
        return answer(self.office, words)


def checked_words(row):
    if not isinstance(row, str):
        raise NoRow("this is no text")
    signs = plain_text(row)
    words = signs.split(" ")
    if "\n" in signs or "" in words or not is_listed(words):
        raise NoRow("this is no row of the desk")
    return words


def is_listed(words):
    behind = len(words) - 1
    if words[0] == "open":
        return behind >= 1
    if words[0] in ("out", "try"):
        return behind >= 2 and behind % 2 == 0
    if words[0] in ("span", "show"):
        return behind == 2
    if words[0] == "round":
        return behind == 1 and is_figures(words[1])
    return words[0] in ("hand", "book") and behind == 0


def answer(office, words):
    if words[0] == "out":
        office.let_out(places_in(words[1:]))
        return DONE
    if words[0] == "span":
        return show_span(office.span((words[1], words[2])))
    if words[0] == "show":
        return show_proof(office, (words[1], words[2]))
    if words[0] == "try":
        return show_parted(parted(office, places_in(words[1:])))
    return in_one_row(text_wanted(office, words))


def text_wanted(office, words):
    if words[0] == "round":
        house = office.house()
        return show_numbers(house, rounded(house, office.whole(), int(words[1])))
    return handout(office) if words[0] == "hand" else written(office)


def in_one_row(text):
    return text.replace("\n", BETWEEN_ROWS)


def show_span(least_greatest):
    least = least_greatest[0]
    greatest = NO_GREATEST if least_greatest[1] is None else least_greatest[1]
    return f"{least} to {greatest}"


def show_proof(office, place):
    low = show_sums(office.low_sums_of(place))
    high_sums = office.high_sums_of(place)
    high = NO_GREATEST if high_sums is None else show_sums(high_sums)
    return f"{low} | {high}"


def show_sums(sums):
    return "; ".join([" ".join(one) for one in sums])


def show_parted(lists):
    going = " ".join(["out"] + words_of(lists[0]))
    staying = " ".join(["in"] + words_of(lists[1]))
    return f"{going} | {staying}"
