"""Points 10.1 to 10.3: the book of an office, written and read, and what an outsider gets."""

import random
import re
import unittest

from tallyveil.books import handout, read_book, written
from tallyveil.errors import NoPlace, NoText, Pinned, Secret, VeilError
from tallyveil.houses import House
from tallyveil.office import Office
from tallyveil.texts import read_house, read_numbers, show_house
from tests import helper
from tests.helper import BLANKS, OTHER_FIGURES, is_house_text, same_house, square_office, told_by

HOUSE = ["part a", "part b", "column x", "column y"]
ROWS = ["row a 5 6", "row b 7 8"]
SECRETS = ["secret a x 12", "secret b all 2"]
OUTS = ["out all x b y all x", "out", "out b y"]
BOOK = HOUSE + ROWS + SECRETS + OUTS
LAND_BOOK = """part north
part coast in north
part sea
part hill in north
part bay in coast
part cape in coast
column old
column sea
row sea 1 20
row hill 300 4000
row bay 50000 600000
row cape 7000000 80000000
secret north all 4000
secret sea sea 3
secret bay old 100
out sea all
out
out cape sea all old cape sea
out sea all hill sea"""
ODD_BOOK = """part in
part row in in
part out in row
part secret in in
part part
column column
column out
column in
row out 1 2 3
row secret 4 5 6
row part 7 8 9
secret row all 1
secret secret column 1
secret secret in 2
out out out secret out
out
out part column in out"""


def square_book():
    office = square_office({("b", "all"): 2, ("a", "x"): 12})
    for places in ([("all", "x"), ("b", "y"), ("all", "x")], [], [("b", "y")]):
        office.let_out(places)
    return office


def land_office():
    office = Office(helper.land(), helper.land_cells(),
                    {("bay", "old"): 100, ("north", "all"): 4000, ("sea", "sea"): 3})
    for places in ([("sea", "all")], [], [("cape", "sea"), ("all", "old"), ("cape", "sea")],
                   [("sea", "all"), ("hill", "sea")]):
        office.let_out(places)
    return office


def odd_office():
    house = House([("in", "all"), ("row", "in"), ("out", "row"), ("secret", "in"), ("part", "all")],
                  ["column", "out", "in"])
    office = Office(house, dict(zip(house.cells(), range(1, 10))),
                    {("secret", "in"): 2, ("row", "all"): 1, ("secret", "column"): 1})
    for places in ([("out", "out"), ("secret", "out")], [], [("part", "column"), ("in", "out")]):
        office.let_out(places)
    return office


def let_some_out(chance, office, turns):
    """Lists of all lengths, some refused."""
    places = office.house().places()
    for turn in range(turns):
        some = helper.shuffled(chance, places)[:chance.choice([0, 1, 1, 2, 4])]
        try:
            office.let_out(some + some[:chance.choice([0, 0, 1])])
        except (Pinned, Secret):
            pass


def some_office(chance, house, turns):
    some = helper.shuffled(chance, house.places())[:chance.choice([0, 1, 3, 8])]
    office = Office(house, helper.some_cells(chance, house), {place: chance.choice([1, 9, 10 ** 18]) for place in some})
    let_some_out(chance, office, turns)
    return office


def words(places):
    return "".join(f" {part} {column}" for part, column in places)


def described(office):
    """The book by the words of the document, of what the office tells."""
    house, table = office.house(), office.whole()
    rows = show_house(house).split("\n")
    rows += ["row " + " ".join([part] + [str(table[(part, column)]) for column in house.columns()])
             for part in house.rows()]
    rows += [f"secret{words([place])} {office.secrets()[place]}" for place in house.places()
             if place in office.secrets()]
    return "\n".join(rows + ["out" + words(places) for places in office.outs()])


def is_book_text(text):
    """By the words of the document: whether it is the text of a book."""
    kinds = ["part", "column", "row", "secret", "out"]
    rows = [row.split(" ") for row in text.split("\n")]
    if any(row[0] not in kinds for row in rows) or rows != sorted(rows, key=lambda row: kinds.index(row[0])):
        return False
    house_text = "\n".join(" ".join(row) for row in rows if row[0] in kinds[:2])
    if not is_house_text(house_text):
        return False
    house = read_house(house_text)
    counts, secrets, outs = ([row[1:] for row in rows if row[0] == kind] for kind in kinds[2:])
    if [row[:1] for row in counts] != [[name] for name in house.rows()]:
        return False
    if any(len(row) != 1 + len(house.columns()) for row in counts) or any(len(row) != 3 for row in secrets):
        return False
    figures = [word for row in counts for word in row[1:]]
    if not all(re.fullmatch("0|[1-9][0-9]{0,39}", word) for word in figures + [row[2] for row in secrets]):
        return False
    places = [tuple(row[:2]) for row in secrets]
    if places != [place for place in house.places() if place in places] or any(len(row) % 2 for row in outs):
        return False
    return is_done(house, dict(zip(house.cells(), map(int, figures))),
                   {tuple(row[:2]): int(row[2]) for row in secrets}, [list(zip(row[::2], row[1::2])) for row in outs])


def is_done(house, cells, secrets, lists):
    """Whether no deed is refused."""
    try:
        office = Office(house, cells, secrets)
        for places in lists:
            office.let_out(places)
    except VeilError:
        return False
    return True


class Checked(helper.Checked):
    def same_office(self, office, other, places=None):
        same_house(self, office.house(), other.house())
        self.assertEqual(told_by(office, places), told_by(other, places))
        self.assertEqual(handout(office), handout(other))


class Written(Checked):
    def write(self, office, text):
        before = told_by(office, [])
        self.assertEqual(written(office), text)
        self.assertIs(written(office).__class__, str)
        self.assertEqual(told_by(office, []), before)

    def test_the_least_office(self):
        self.write(Office(helper.small_house(), {("a", "x"): 0}, {}), "part a\ncolumn x\nrow a 0")

    def test_without_secrets_or_lists(self):
        self.write(square_office({}), "\n".join(HOUSE + ROWS))
        self.write(square_office({("a", "x"): 10 ** 18}), "\n".join(HOUSE + ROWS + [f"secret a x {10 ** 18}"]))
        office = square_office({})
        office.let_out([("b", "x")])
        self.write(office, "\n".join(HOUSE + ROWS + ["out b x"]))

    def test_with_all(self):
        self.write(square_book(), "\n".join(BOOK))

    def test_parts_under_parts(self):
        self.write(land_office(), LAND_BOOK)

    def test_names_like_the_words(self):
        self.write(odd_office(), ODD_BOOK)

    def test_counts_of_all_sizes(self):
        counts = (0, 10 ** 18, 10 ** 17, 9)
        self.write(square_office({}, counts), "\n".join(HOUSE + [f"row a 0 {10 ** 18}", f"row b {10 ** 17} 9"]))

    def test_secrets_in_the_order_of_places(self):
        for order in (1, -1):
            secrets = dict(list({("all", "y"): 1, ("a", "x"): 2, ("a", "all"): 3, ("b", "y"): 4}.items())[::order])
            self.write(square_office(secrets), "\n".join(
                HOUSE + ROWS + ["secret all y 1", "secret a x 2", "secret a all 3", "secret b y 4"]))

    def test_lists_of_none(self):
        office = square_office({})
        for places in ([], [], [("a", "x")], []):
            office.let_out(places)
        self.write(office, "\n".join(HOUSE + ROWS + ["out", "out", "out a x", "out"]))

    def test_refused_lists_are_not_in_it(self):
        office = square_book()
        for places, error in (([("b", "x")], Pinned), ([("a", "y"), ("a", "x")], Secret), ([("c", "x")], NoPlace),
                              ([("b", "y"), None], NoPlace)):
            self.refuse(error, office.let_out, places)
            self.write(office, "\n".join(BOOK))
        office.let_out([("a", "y")])
        self.write(office, "\n".join(BOOK + ["out a y"]))

    def test_many_offices(self):
        chance = random.Random(80)
        for house in helper.some_houses(25):
            office = some_office(chance, house, 6)
            self.write(office, described(office))


class Read(Checked):
    def test_by_hand(self):
        for office, text in ((square_book(), "\n".join(BOOK)), (land_office(), LAND_BOOK), (odd_office(), ODD_BOOK)):
            read = read_book(text)
            self.assertIsInstance(read, Office)
            self.same_office(read, office)
            self.assertEqual(written(read), text)

    def test_what_it_tells(self):
        office = read_book("\n".join(BOOK))
        self.assertEqual(list(office.known().items()), [(("all", "x"), 12), (("b", "y"), 8)])
        self.assertEqual(office.outs(), [[("all", "x"), ("b", "y"), ("all", "x")], [], [("b", "y")]])
        self.assertEqual(list(office.secrets().items()), [(("a", "x"), 12), (("b", "all"), 2)])
        self.assertEqual(list(office.whole().items()), list(helper.square_table(5, 6, 7, 8).items()))
        self.assertEqual(office.house().places(), helper.square().places())

    def test_what_is_written_is_read_to_the_same(self):
        chance = random.Random(81)
        for house in helper.some_houses(30) + helper.small_houses():
            office = some_office(chance, house, 7)
            text = written(office)
            read = read_book(text)
            self.assertEqual(written(read), text)
            self.same_office(read, office, helper.shuffled(chance, house.places())[:4])

    def test_later_deeds_are_answered_alike(self):
        chance, refused = random.Random(82), 0
        for house in helper.small_houses() * 3:
            office = some_office(chance, house, 4)
            read = read_book(written(office))
            for turn in range(6):
                places = helper.shuffled(chance, house.places())[:chance.randint(0, 3)]
                answers = []
                for one in (office, read):
                    try:
                        answers.append(one.let_out(places))
                    except (Pinned, Secret) as error:
                        answers.append((error.__class__, vars(error)))
                self.assertEqual(answers[0], answers[1])
                refused += answers[0] is not None
                self.same_office(office, read)
        self.assertGreater(refused, 10)

    def test_each_reading_makes_an_office_of_its_own(self):
        text = "\n".join(BOOK)
        first, second = read_book(text), read_book(text)
        first.let_out([("a", "y")])
        self.assertEqual((written(first), written(second)), (text + "\nout a y", text))
        first.outs().clear()
        self.same_office(read_book(text), second)

    def test_texts_of_a_narrower_kind_are_read_by_their_signs(self):
        for kind in (helper.KeylessText, helper.OddText, helper.WaywardText):
            self.same_office(read_book(kind(LAND_BOOK)), land_office())

    def test_bounds_are_read(self):
        text = "\n".join(HOUSE + [f"row a 0 {10 ** 18}", "row b 0 0", "secret a x 1", f"secret b y {10 ** 18}"])
        self.assertEqual(written(read_book(text)), text)

    def test_a_list_of_many_places(self):
        house = helper.greatest_house()
        office = Office(house, dict.fromkeys(house.cells(), 10 ** 18), {})
        office.let_out(house.places() + house.places())
        self.same_office(read_book(written(office)), office, house.places()[:3])

    def test_many_lists_are_read_in_time(self):
        house = helper.greatest_house()
        secrets = dict.fromkeys(house.cells()[::3], 1)
        office = Office(house, dict.fromkeys(house.cells(), 5), secrets)
        office.let_out([place for place in house.places() if place not in house.cells()])
        text = written(office)
        text += "\nout" * ((20000 - len(text)) // 4)
        with helper.within(30):
            self.assertEqual(written(read_book(text)), text)


class ReadRefused(Checked):
    def refuse_rows(self, *books):
        """Books, each a list of rows."""
        for rows in books:
            with self.subTest(ascii(rows)):
                self.refuse(NoText, read_book, "\n".join(rows))

    def test_the_rows_around_are_right(self):
        read_book("\n".join(BOOK))

    def test_no_text_of_any_kind(self):
        for thing in helper.no_things_of(str) + [BOOK, tuple(BOOK), "\n".join(BOOK).encode(), square_book()]:
            self.refuse(NoText, read_book, thing)

    def test_no_signs_and_other_words(self):
        self.refuse_rows([], [""], ["", ""], [" "], ["*"], ["house"], ["open"], ["out"], ["row a 1"], ["hand"],
                         ["secret a x 1"], HOUSE, HOUSE + OUTS, HOUSE + SECRETS)
        for word in ("house", "rows", "Row", "in", "all", "let", "secrets", "outs", "row:", "*", "-", "0", ";"):
            self.refuse_rows(BOOK + [word], BOOK + [f"{word} b y"], [word] + BOOK, HOUSE + [f"{word} a 5 6"] + BOOK[5:])

    def test_rows_lacking(self):
        for at in range(len(HOUSE + ROWS)):
            self.refuse_rows(BOOK[:at] + BOOK[at + 1:])
            self.refuse_rows(BOOK[:at])

    def test_rows_twice(self):
        # Only a list may be let out twice.
        for at in range(len(HOUSE + ROWS + SECRETS)):
            self.refuse_rows(BOOK[:at] + [BOOK[at]] + BOOK[at:], BOOK + [BOOK[at]], [BOOK[at]] + BOOK)
        self.refuse_rows(HOUSE + ["row a 1 1"] + ROWS, HOUSE + ROWS + ["row a 1 1"], HOUSE + ROWS + ["row b 1 1"])
        self.refuse_rows(HOUSE + ROWS + ["secret a x 2", "secret a x 3"])

    def test_rows_out_of_their_order(self):
        for rows in (HOUSE + ROWS[::-1] + SECRETS + OUTS, HOUSE + SECRETS + ROWS + OUTS, ROWS + HOUSE + SECRETS + OUTS,
                     HOUSE + ROWS + OUTS + SECRETS, HOUSE + OUTS + ROWS + SECRETS, OUTS + HOUSE + ROWS + SECRETS,
                     HOUSE + ROWS + SECRETS[::-1] + OUTS, HOUSE[2:] + HOUSE[:2] + ROWS + SECRETS + OUTS,
                     HOUSE[:3] + ROWS + HOUSE[3:] + SECRETS + OUTS, HOUSE + ROWS[:1] + SECRETS + ROWS[1:] + OUTS,
                     HOUSE + ROWS + OUTS[:1] + SECRETS + OUTS[1:], HOUSE + ROWS + SECRETS[:1] + OUTS + SECRETS[1:]):
            self.assertEqual(sorted(rows), sorted(BOOK))
            self.refuse_rows(rows)

    def test_secrets_out_of_the_order_of_places(self):
        good = ["secret all y 1", "secret all all 1", "secret a y 1", "secret a all 1", "secret b x 1"]
        read_book("\n".join(HOUSE + ROWS + good))
        for at in range(4):
            self.refuse_rows(HOUSE + ROWS + good[:at] + [good[at + 1], good[at]] + good[at + 2:])

    def test_a_word_more_or_less(self):
        for at, row in enumerate(BOOK):
            parts = row.split(" ")
            for turn in range(len(parts) + 1):
                for word in ("a", "1", "in", "all", "x"):
                    self.refuse_rows(BOOK[:at] + [" ".join(parts[:turn] + [word] + parts[turn:])] + BOOK[at + 1:])
            if row != "out":
                for turn in range(len(parts)):
                    self.refuse_rows(BOOK[:at] + [" ".join(parts[:turn] + parts[turn + 1:])] + BOOK[at + 1:])

    def test_blanks_doubled_or_at_an_end(self):
        for at, row in enumerate(BOOK):
            wrong = [row + " ", " " + row, row + "  ", row + "\r", "\t" + row]
            wrong += [row[:turn] + " " + row[turn:] for turn, sign in enumerate(row) if sign == " "]
            for other in wrong:
                self.refuse_rows(BOOK[:at] + [other] + BOOK[at + 1:])

    def test_other_signs_in_the_stead_of_blanks_and_line_feeds(self):
        for blank in BLANKS:
            self.refuse(NoText, read_book, blank.join(BOOK))
            self.refuse(NoText, read_book, "\n".join(BOOK) + blank)
            self.refuse_rows(HOUSE + [f"row{blank}a 5 6", "row b 7 8"], HOUSE + [f"row a 5{blank}6", "row b 7 8"],
                             HOUSE + ROWS + [f"secret{blank}a x 1"], HOUSE + ROWS + [f"out a{blank}x"],
                             HOUSE + ROWS + [f"out{blank}a x"])

    def test_line_feeds_more(self):
        for at in range(len(BOOK) + 1):
            self.refuse_rows(BOOK[:at] + [""] + BOOK[at:])

    def test_counts_that_are_none(self):
        for word in ("-1", "+5", "05", "00", "5.0", "5e1", "0x5", "1_0", "five", "*", "", "=", "True", "None",
                     str(10 ** 18 + 1), "1" + "0" * 39, "1" * 40, "1" * 41, "0" * 41, "1" * 300) + OTHER_FIGURES:
            self.refuse_rows(HOUSE + [f"row a 5 {word}", "row b 7 8"], HOUSE + [f"row a {word} 6", "row b 7 8"],
                             HOUSE + ["row a 5 6", f"row b 7 {word}"])
        for figure in OTHER_FIGURES:
            self.refuse_rows(HOUSE + [f"row a 5 1{figure}", ROWS[1]], HOUSE + [f"row a 5 {figure}1", ROWS[1]],
                             HOUSE + ROWS + [f"secret a x 1{figure}"])

    def test_widths_that_are_none(self):
        for word in ("0", "-1", "+5", "05", "00", "5.0", "1_0", "one", "*", "", str(10 ** 18 + 1), "1" * 40, "1" * 41,
                     "1" * 300) + OTHER_FIGURES:
            self.refuse_rows(HOUSE + ROWS + [f"secret a x {word}"],
                             HOUSE + ROWS + ["secret all x 1", f"secret b y {word}"])

    def test_rows_of_nobody(self):
        for name in ("all", "c", "x", "north", "A", "row"):
            self.refuse_rows(HOUSE + [f"row {name} 5 6", ROWS[1]], HOUSE + ROWS + [f"row {name} 5 6"])
        # A part that is above others is no row.
        house = ["part a", "part b in a", "column x"]
        read_book("\n".join(house + ["row b 5"]))
        self.refuse_rows(house + ["row a 5"], house + ["row a 5", "row b 5"], house + ["row b 5", "row a 5"])

    def test_places_that_are_none(self):
        for place in ("a z", "c x", "x a", "x x", "all b", "all All", "a 1", "a ;"):
            self.refuse_rows(HOUSE + ROWS + [f"secret {place} 1"], HOUSE + ROWS + [f"out {place}"],
                             HOUSE + ROWS + [f"out a x {place}"], HOUSE + ROWS + [f"out {place} a x"])

    def test_half_a_place(self):
        self.refuse_rows(BOOK + ["out a"], BOOK + ["out all"], BOOK + ["out b y a"], BOOK + ["out b b y"])

    def test_deeds_that_would_be_refused(self):
        # A secret, alone and among others; and what would tell one, at once or beside what is known.
        self.refuse_rows(BOOK + ["out a x"], BOOK + ["out b y a x"], BOOK + ["out b x"],
                         BOOK + ["out", "out b x", "out"], HOUSE + ROWS + ["secret a x 1", "out a y a all"],
                         HOUSE + ROWS + ["secret a x 1", "out a y", "out a all"],
                         HOUSE + ROWS + ["secret a x 12", "out a all"])
        for text in ("secret a x 11\nout a all", "secret a x 1\nout a y\nout a y"):
            read_book("\n".join(HOUSE + ROWS) + "\n" + text)

    def test_no_house(self):
        self.refuse_rows(["part a", "part a"] + BOOK[2:], ["part a in all"] + BOOK[1:],
                         ["part a", "part b in c"] + BOOK[2:], ["part a", "part all"] + BOOK[2:])

    def test_each_text_that_is_one_sign_off(self):
        small = "part a\npart b in a\ncolumn x\ncolumn y\nrow b 5 10\nsecret b x 4\nout all all\nout"
        good = 0
        for text in (small, "\n".join(BOOK)):
            for other in helper.one_sign_off(text, "axb0 1\n"):
                if is_book_text(other):
                    self.assertEqual(written(read_book(other)), other)
                    good += other != text
                else:
                    self.refuse(NoText, read_book, other)
        self.assertGreater(good, 30)

    def test_rows_lacking_twice_or_moved(self):
        chance, tally = random.Random(83), [0, 0]
        for turn in range(1500):
            # Lists, and secrets, may lack; all else makes no book of it.
            rows = [row for row in BOOK + ["out a y"] if chance.random() < 0.97 or row.startswith("out")]
            rows = [row for row in rows if chance.random() < 0.6 or row not in OUTS + SECRETS]
            if chance.random() < 0.4:
                one, other = chance.randrange(len(rows)), chance.randrange(len(rows))
                rows.insert(one, rows[other] if chance.random() < 0.5 else rows.pop(other))
            text, good = "\n".join(rows), is_book_text("\n".join(rows))
            tally[good] += 1
            if good:
                self.assertEqual(written(read_book(text)), text)
            else:
                self.refuse(NoText, read_book, text)
        self.assertGreater(min(tally), 300)

    def test_refused_is_refused_again(self):
        for turn in range(2):
            self.refuse_rows(BOOK + ["out a x"])
            self.same_office(read_book("\n".join(BOOK)), square_book())


class Handout(Checked):
    def test_nothing_let_out(self):
        self.assertEqual(handout(square_office({})), "all: * * = *\na: * * = *\nb: * * = *")

    def test_some_let_out(self):
        self.assertEqual(handout(square_book()), "all: 12 * = *\na: * * = *\nb: * 8 = *")
        self.assertEqual(handout(land_office()),
                         "all: 7050301 * = *\nnorth: * * = *\ncoast: * * = *\nsea: * * = 21\nhill: * 4000 = *\n"
                         "bay: * * = *\ncape: * 80000000 = *")

    def test_what_could_be_reckoned_is_not_told(self):
        office = square_office({})
        office.let_out([("a", "x"), ("a", "y")])
        self.assertEqual(office.span(("a", "all")), (11, 11))
        self.assertEqual(handout(office), "all: * * = *\na: 5 6 = *\nb: * * = *")

    def test_noughts_are_told(self):
        office = square_office({}, (0, 0, 0, 0))
        office.let_out([("a", "x"), ("all", "all")])
        self.assertEqual(handout(office), "all: * * = 0\na: 0 * = *\nb: * * = *")

    def test_all_let_out(self):
        office = square_office({})
        office.let_out(helper.square().places())
        self.assertEqual(handout(office), "all: 12 14 = 26\na: 5 6 = 11\nb: 7 8 = 15")

    def test_it_is_read_to_the_known_numbers(self):
        chance = random.Random(84)
        for house in helper.some_houses(25):
            office = some_office(chance, house, 6)
            text = handout(office)
            self.assertIs(text.__class__, str)
            self.assertEqual(list(read_numbers(house, text).items()), list(office.known().items()))
            self.assertEqual(len(re.findall(r"\*", text)), len(office.shut()))

    def test_refused_lists_are_not_in_it(self):
        office = square_book()
        self.refuse(Pinned, office.let_out, [("b", "x")])
        self.refuse(Secret, office.let_out, [("a", "y"), ("a", "x")])
        self.assertEqual(handout(office), "all: 12 * = *\na: * * = *\nb: * 8 = *")


if __name__ == "__main__":
    unittest.main()
