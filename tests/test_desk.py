"""Point 11.1: the desk, the rows it is told, its answers and refusals."""

import itertools
import random
import unittest

from tallyveil.books import handout, read_book, written
from tallyveil.desk import Desk
from tallyveil.errors import NoBase, NoPlace, NoRow, NoText, Pinned, Secret
from tallyveil.office import Office
from tallyveil.rounding import rounded
from tallyveil.sums import sums_of
from tallyveil.texts import read_numbers, show_numbers
from tallyveil.wishes import parted
from tests import helper
from tests.helper import BLANKS, OTHER_FIGURES, square, sums_in

BOOK = ("part a ; part b ; column x ; column y ; row a 5 6 ; row b 7 8 ; secret a x 12 ; secret b all 2 ; "
        "out all x b y all x ; out ; out b y")
OTHER = "part c ; column z ; row c 3 ; out c z"
WORDS = ("out", "span", "show", "try", "round", "hand", "book")
# A row of each word that is answered at the desk of that book.
GOOD = ("out a y", "span a x", "show a x", "try a x all y", "round 5", "hand", "book")


def opened(book=BOOK):
    desk = Desk()
    desk.say("open " + book)
    return desk


def said(desk, *rows):
    return [desk.say(row) for row in rows]


def told_at(desk):
    """Everything that the desk of the book tells without a deed."""
    places = [" ".join(place) for place in square().places()]
    return said(desk, "book", "hand", "round 3", *[f"{word} {place}" for word in ("span", "show", "try")
                                                   for place in places])


def in_a_row(text):
    return text.replace("\n", " ; ")


class Checked(helper.Checked):
    def ask(self, desk, row, answer):
        told = desk.say(row)
        self.assertEqual(told, answer)
        self.assertIs(told.__class__, str)

    def refuse_rows(self, error, desk, *rows):
        for row in rows:
            with self.subTest(ascii(row)):
                self.refuse(error, desk.say, row)


class Opened(Checked):
    def test_it_is_answered(self):
        desk = Desk()
        self.ask(desk, "open " + BOOK, "ok")
        self.ask(desk, "book", BOOK)
        self.ask(desk, "hand", "all: 12 * = * ; a: * * = * ; b: * 8 = *")

    def test_the_least_book(self):
        desk = opened("part a ; column x ; row a 0")
        self.ask(desk, "book", "part a ; column x ; row a 0")
        self.ask(desk, "hand", "all: * = * ; a: * = *")

    def test_names_like_the_words_of_the_desk(self):
        book = ("part open ; part out in open ; part span in open ; part hand ; column in ; column try ; column to ; "
                "row out 1 2 3 ; row span 4 5 6 ; row hand 7 8 9 ; secret span try 2 ; out ; out open in hand to ; out")
        desk = opened(book)
        self.ask(desk, "book", book)
        self.ask(desk, "out out in span in", "ok")
        self.ask(desk, "span span try", "0 to -")
        self.ask(desk, "span open in", "5 to 5")
        self.ask(desk, "try span try open to hand to", "out open to hand to | in span try")
        self.ask(desk, "book", book + " ; out out in span in")

    def test_the_next_one_takes_its_place(self):
        desk = opened()
        self.ask(desk, "open " + OTHER, "ok")
        self.ask(desk, "book", OTHER)
        self.refuse_rows(NoPlace, desk, "span a x", "out b y")
        self.ask(desk, "span c z", "3 to 3")
        self.ask(desk, "open " + BOOK, "ok")
        self.assertEqual(told_at(desk), told_at(opened()))

    def test_opened_again_what_was_let_out_since_is_gone(self):
        desk = opened()
        self.ask(desk, "out a y", "ok")
        self.ask(desk, "open " + BOOK, "ok")
        self.assertEqual(told_at(desk), told_at(opened()))

    def test_what_the_desk_writes_it_opens(self):
        chance = random.Random(90)
        for house in helper.some_houses(20):
            office = Office(house, helper.some_cells(chance, house), {house.cells()[0]: 1})
            office.let_out(parted(office, helper.some_known(chance, house)[:9])[0])
            desk = opened(in_a_row(written(office)))
            self.ask(desk, "book", in_a_row(written(office)))
            self.ask(opened(desk.say("book")), "hand", in_a_row(handout(office)))

    def test_desks_are_apart(self):
        first, second, third = opened(), opened(), Desk()
        self.ask(first, "out a y", "ok")
        self.assertEqual(told_at(second), told_at(opened()))
        self.refuse_rows(NoRow, third, *GOOD)


class Out(Checked):
    def test_one_place_and_more(self):
        desk = opened()
        self.ask(desk, "out a y", "ok")
        self.ask(desk, "hand", "all: 12 * = * ; a: * 6 = * ; b: * 8 = *")
        self.ask(desk, "out all y b y all y", "ok")
        self.ask(desk, "hand", "all: 12 14 = * ; a: * 6 = * ; b: * 8 = *")
        self.ask(desk, "book", BOOK + " ; out a y ; out all y b y all y")

    def test_refused_as_in_an_office(self):
        desk = opened()
        before = told_at(desk)
        for turn in range(2):
            self.assertEqual(self.refuse(Secret, desk.say, "out a y b all a x").place, ("b", "all"))
            error = self.refuse(Pinned, desk.say, "out a y b x")
            self.assertEqual((error.place, error.least, error.greatest), (("a", "x"), 5, 5))
            numbers = {**read_numbers(square(), handout(read_book(BOOK.replace(" ; ", "\n")))),
                       ("a", "y"): 6, ("b", "x"): 7}
            self.assertEqual(helper.reckoned(square(), numbers, ("a", "x"), error.low_sums)[0], 5)
            self.assertEqual(helper.reckoned(square(), numbers, ("a", "x"), error.high_sums)[1], 5)
            self.refuse_rows(NoPlace, desk, "out a z", "out a y a z", "out a x a z", "out b x z z", "out x a")
            self.assertEqual(told_at(desk), before)
        self.ask(desk, "out a y", "ok")


class Spans(Checked):
    def test_by_hand(self):
        desk = opened()
        for row, answer in (("span a x", "0 to 12"), ("span b x", "0 to 12"), ("span all x", "12 to 12"),
                            ("span b y", "8 to 8"), ("span b all", "8 to 20"), ("span a y", "0 to -"),
                            ("span all all", "20 to -"), ("span all y", "8 to -"), ("span a all", "0 to -")):
            self.ask(desk, row, answer)

    def test_great_numbers(self):
        desk = opened(f"part a ; part b ; column x ; row a {10 ** 18} ; row b {10 ** 18} ; out all all")
        self.ask(desk, "span all x", f"{2 * 10 ** 18} to {2 * 10 ** 18}")
        self.ask(desk, "span a all", f"0 to {2 * 10 ** 18}")

    def test_nothing_let_out(self):
        desk = opened("part a ; column x ; row a 7")
        for place in ("all x", "all all", "a x", "a all"):
            self.ask(desk, "span " + place, "0 to -")
            self.ask(desk, "show " + place, " | -")
        desk.say("out a x")
        for place in ("all x", "all all", "a x", "a all"):
            self.ask(desk, "span " + place, "7 to 7")


class Shown(Checked):
    def test_no_sums(self):
        desk = opened()
        # Of a known place none, of one from 0 on without a greatest none and a dash.
        for row, answer in (("show all x", " | "), ("show b y", " | "), ("show a y", " | -"), ("show a all", " | -")):
            self.ask(desk, row, answer)

    def test_word_for_word(self):
        """That each text is one of those of all choices of sums that show it."""
        for book in (BOOK, "part a ; column x ; column y ; row a 5 6 ; out a y ; out a all",
                     "part b ; column x ; row b 4 ; out b x"):
            desk, office = opened(book), read_book(book.replace(" ; ", "\n"))
            house, sums = office.house(), sums_of(office.house())
            choices = [some for count in range(len(sums) + 1) for some in itertools.combinations(sums, count)]
            for place in office.shut():
                shown = [helper.reckoned(house, office.known(), place, some) for some in choices]
                texts = ["; ".join(" ".join(one) for one in some) for some in choices]
                least, greatest = office.span(place)
                lows = [text for text, number in zip(texts, shown) if number[0] == least]
                highs = [text for text, number in zip(texts, shown) if number[1] == greatest is not None] or ["-"]
                self.assertIn(desk.say("show " + " ".join(place)),
                              [f"{low} | {high}" for low in lows for high in highs])

    def test_many_desks(self):
        chance, tally = random.Random(91), [0, 0, 0]
        for house in helper.small_houses() + helper.some_houses(12):
            office = Office(house, helper.some_cells(chance, house), {})
            office.let_out(helper.some_known(chance, house)[:chance.choice([2, 5, 40])])
            desk, numbers = opened(in_a_row(written(office))), office.known()
            for place in helper.shuffled(chance, house.places())[:8]:
                low, high = desk.say("show " + " ".join(place)).split(" | ")
                least, greatest = desk.say("span " + " ".join(place)).split(" to ")
                for text in (low, high):
                    sums = [] if text == "-" else sums_in(text)
                    self.assertEqual(sums, [one for one in sums_of(house) if one in sums])
                self.assertEqual(str(helper.reckoned(house, numbers, place, sums_in(low))[0]), least)
                self.assertEqual(high == "-", greatest == "-")
                if high != "-":
                    self.assertEqual(str(helper.reckoned(house, numbers, place, sums_in(high))[1]), greatest)
                tally = [tally[0] + (low != ""), tally[1] + (high == "-"), tally[2] + (len(sums_in(high)) > 1)]
        self.assertTrue(all(count > 5 for count in tally), tally)


class Tried(Checked):
    def test_by_hand(self):
        desk = opened()
        before = told_at(desk)
        for row, answer in (("try a y", "out a y | in"), ("try a x", "out | in a x"), ("try b x", "out | in b x"),
                            ("try a y a y", "out a y | in"),
                            ("try b all a y b x a x all y", "out a y all y | in b all b x a x"),
                            ("try b x all x b y b x", "out all x b y | in b x")):
            self.ask(desk, row, answer)
            self.assertEqual(told_at(desk), before)

    def test_as_in_a_wish(self):
        chance = random.Random(92)
        for house in helper.small_houses() + helper.some_houses(8):
            secrets = {place: chance.choice([1, 3, 10 ** 18]) for place in helper.shuffled(chance, house.places())[:3]}
            office = Office(house, helper.some_cells(chance, house), secrets)
            desk = opened(in_a_row(written(office)))
            for turn in range(4):
                wish = chance.choices(house.places(), k=chance.randint(1, 6))
                words = [word for place in wish for word in place]
                going, staying = [" ".join([word] + [" ".join(place) for place in part])
                                  for word, part in zip(("out", "in"), parted(office, wish))]
                self.ask(desk, " ".join(["try"] + words), f"{going} | {staying}")


class Rounds(Checked):
    def test_by_hand(self):
        desk = opened()
        self.ask(desk, "round 1", "all: 12 14 = 26 ; a: 5 6 = 11 ; b: 7 8 = 15")
        self.ask(opened(OTHER), "round 3", "all: 3 = 3 ; c: 3 = 3")
        self.ask(opened("part a ; column x ; row a 0"), f"round {10 ** 18}", "all: 0 = 0 ; a: 0 = 0")

    def test_as_a_table_is_rounded(self):
        chance = random.Random(93)
        for house in helper.some_houses(15):
            office = Office(house, helper.some_cells(chance, house), {})
            desk, table = opened(in_a_row(written(office))), office.whole()
            for base in (1, 2, 10, 999, 10 ** 18 - 1, 10 ** 18):
                answer = desk.say(f"round {base}")
                self.assertEqual(answer, in_a_row(show_numbers(house, rounded(house, table, base))))
                told = read_numbers(house, answer.replace(" ; ", "\n"))
                self.assertTrue(all(told[place] % base == 0 and abs(told[place] - table[place]) < base
                                    for place in house.places()))

    def test_bases_that_are_none(self):
        desk = opened()
        before = told_at(desk)
        self.refuse_rows(NoBase, desk, "round 0", f"round {10 ** 18 + 1}", "round 1" + "0" * 39, "round " + "9" * 40)
        self.refuse_rows(NoRow, desk, "round -1", "round +1", "round 05", "round 00", "round 1.0", "round 1e3",
                         "round x", "round 1_000", "round *", "round " + "1" * 41, "round " + "0" * 41,
                         "round " + "9" * 300, "round True", "round None",
                         *["round " + figure for figure in OTHER_FIGURES],
                         *["round 1" + figure for figure in OTHER_FIGURES + BLANKS])
        self.assertEqual(told_at(desk), before)


class Texts(Checked):
    def test_hand_and_book(self):
        chance = random.Random(94)
        for house in helper.some_houses(12):
            office = Office(house, helper.some_cells(chance, house), {house.places()[-1]: 1})
            office.let_out([])
            office.let_out(parted(office, house.places()[:9])[0])
            desk = opened(in_a_row(written(office)))
            self.ask(desk, "hand", in_a_row(handout(office)))
            self.ask(desk, "book", in_a_row(written(office)))

    def test_rows_of_a_narrower_kind_are_read_by_their_signs(self):
        for kind in (helper.KeylessText, helper.OddText, helper.WaywardText):
            desk = Desk()
            self.ask(desk, kind("open " + BOOK), "ok")
            self.ask(desk, kind("out a y"), "ok")
            self.ask(desk, kind("span a x"), "0 to 12")
            self.ask(desk, kind("round 1"), "all: 12 14 = 26 ; a: 5 6 = 11 ; b: 7 8 = 15")
            self.ask(desk, kind("book"), BOOK + " ; out a y")


class NoRows(Checked):
    def desks(self):
        return (Desk(), opened())

    def refuse_at_both(self, *rows):
        """With and without an office; and nothing changes by it."""
        for desk in self.desks():
            before = self.state(desk)
            self.refuse_rows(NoRow, desk, *rows)
            self.assertEqual(self.state(desk), before)

    def state(self, desk):
        try:
            return told_at(desk)
        except NoRow:
            return None

    def test_no_text_of_any_kind(self):
        things = helper.no_things_of(str) + [["hand"], ("hand",), b"hand", {"hand": 1}]
        for desk in self.desks():
            for thing in things:
                self.refuse(NoRow, desk.say, thing)

    def test_no_signs_and_other_words(self):
        self.refuse_at_both("", " ", "  ", "\n", "x", "ok", "Hand", "HAND", "hands", "han", "let a x", "in a x",
                            "part a", "column x", "row a 5 6", "secret a x 1", "close", "help", "all", "*", "-", "1",
                            "opened", "hand;", ";", "; hand", "hand ;", "hand ; book", BOOK, OTHER)

    def test_a_word_more_or_less(self):
        self.refuse_at_both("open", "out", "out a", "out all", "out a x b", "out a x b y a", "span", "span a",
                            "span a x b", "span a x b y", "show", "show a", "show a x y", "show a x b y", "try",
                            "try a", "try a x b", "round", "round 1 2", "round 0 0", "hand a", "hand a x",
                            "book a", "book a x", "hand hand", "round 1 1 1 1")

    def test_two_blanks_or_one_at_an_end(self):
        for row in GOOD + ("open " + BOOK, "open x", "span z z", "round 0"):
            self.refuse_at_both(row + " ", " " + row, row + "  ")
            self.refuse_at_both(*[row[:at] + " " + row[at:] for at, sign in enumerate(row) if sign == " "])

    def test_line_feeds(self):
        for row in GOOD + ("open " + OTHER, "open x", "span z z", "round 0"):
            self.refuse_at_both(*[row[:at] + "\n" + row[at:] for at in range(len(row) + 1)])
        self.refuse_at_both("open " + BOOK.replace(" ; ", "\n"), "open " + BOOK.replace(" ; ", " ;\n"),
                            "open " + OTHER.replace(" ; ", "\n", 1), "hand\nbook")

    def test_other_signs_in_the_stead_of_blanks(self):
        for blank in BLANKS:
            self.refuse_at_both(f"span{blank}a x", f"span a{blank}x", f"hand{blank}", f"{blank}hand",
                                f"open{blank}{OTHER}", f"round{blank}1", f"out a{blank}x")

    def test_ahead_of_the_first_open(self):
        desk = Desk()
        for turn in range(2):
            self.refuse_rows(NoRow, desk, *GOOD)
            # Ahead of the refusals of the stages.
            self.refuse_rows(NoRow, desk, "span z z", "show z z", "out z z", "try z z", "round 0",
                             f"round {10 ** 18 + 1}", "out a x", "out a y b x")
            self.refuse_rows(NoText, desk, "open x", "open " + BOOK + " ; out a x")
        self.ask(desk, "open " + OTHER, "ok")
        self.ask(desk, "span c z", "3 to 3")

    def test_every_short_row(self):
        """All rows of up to three of these words are answered or refused as the interface lists them."""
        for count in (1, 2, 3):
            for words in itertools.product(WORDS + ("open", "a", "y", "7", "0", "-"), repeat=count):
                desk = opened()
                first, rest = words[0], words[1:]
                listed = (first in ("out", "span", "show", "try") and count == 3
                          or first in ("hand", "book") and count == 1
                          or first == "round" and count == 2 and rest[0] in ("7", "0"))
                if first == "open" and rest:
                    self.refuse(NoText, desk.say, " ".join(words))
                elif not listed:
                    self.refuse(NoRow, desk.say, " ".join(words))
                elif first == "round" and rest[0] == "0":
                    self.refuse(NoBase, desk.say, " ".join(words))
                elif count == 3 and rest != ("a", "y"):
                    self.refuse(NoPlace, desk.say, " ".join(words))
                else:
                    self.assertIs(desk.say(" ".join(words)).__class__, str)


class Refused(Checked):
    def test_words_that_are_no_place(self):
        desk = opened()
        before = told_at(desk)
        for pair in ("a z", "c x", "x a", "x x", "a b", "all a", "All x", "a, x", "| -", "; ;", "0 1", "a X", "in to",
                     "\t x", "a x\t", "a \u00a0", "verylongwords verylongwords"):
            self.refuse_rows(NoPlace, desk, *[f"{word} {pair}" for word in ("span", "show", "out", "try")],
                             f"out a y {pair}", f"out {pair} a y", f"out a x {pair}", f"try a y {pair} b x",
                             f"try {pair} {pair}")
        self.assertEqual(told_at(desk), before)

    def test_an_open_of_no_book(self):
        for desk in (opened(), opened(OTHER)):
            before = desk.say("book"), desk.say("hand")
            self.refuse_rows(
                NoText, desk, "open x", "open ;", "open ; ;", "open open", "open " + BOOK + " ;", "open ; " + BOOK,
                "open " + BOOK.replace(" ; ", " ; ; ", 1), "open " + BOOK.replace(" ; ", "; ", 1),
                "open " + BOOK.replace(" ; ", " ;", 1), "open " + BOOK.replace(" ; ", ";"),
                "open " + BOOK + " ; out a x",
                "open " + BOOK + " ; out b x", "open " + BOOK + " ; hand", "open " + BOOK + " ; out a z",
                "open " + BOOK.replace("row a 5 6", "row a 05 6"), "open " + BOOK.replace("row a 5 6", "row a 5"),
                "open open " + BOOK, "open " + BOOK.replace(" ; ", " | "), "open " + BOOK.replace(" ; ", " \\n "),
                *["open " + BOOK.replace(" ; ", blank) for blank in BLANKS])
            self.assertEqual((desk.say("book"), desk.say("hand")), before)

    def test_behind_refusals_all_is_as_if_nothing_had_been_asked(self):
        asked, quiet = opened(), opened()
        bad = [("out a y b all", Secret), ("out a y b x", Pinned), ("out a y z z", NoPlace), ("span z z", NoPlace),
               ("show z z", NoPlace), ("try a y z z", NoPlace), ("round 0", NoBase),
               ("open " + BOOK + " ; out a x", NoText), ("out a y b", NoRow),
               ("", NoRow), (None, NoRow), ("open", NoRow)]
        for row in ("out a y", "out all y", "out all x", "open " + OTHER, "open " + BOOK, "out a y"):
            for wrong, error in bad:
                if asked.say("book").startswith("part a"):
                    self.refuse(error, asked.say, wrong)
            self.assertEqual(asked.say(row), quiet.say(row))
            self.assertEqual(said(asked, "book", "hand", "round 4"), said(quiet, "book", "hand", "round 4"))
        self.assertEqual(told_at(asked), told_at(quiet))

    def test_questions_let_nothing_out(self):
        asked, quiet = opened(), opened()
        for turn in range(2):
            said(asked, "try a y all y", "span a y", "show a x", "round 5", "hand", "book", "try a x b x")
            self.assertEqual(told_at(asked), told_at(quiet))


class LongRows(Checked):
    def test_a_great_book_and_a_great_wish(self):
        house = helper.greatest_house()
        office = Office(house, dict.fromkeys(house.cells(), 10 ** 18), dict.fromkeys(house.cells()[::9], 5))
        book = in_a_row(written(office))
        places = " ".join(" ".join(place) for place in reversed(house.places()))
        with helper.within(60):
            desk = opened(book)
            going, staying = desk.say("try " + places).split(" | ")
            self.assertEqual(desk.say(going), "ok")
        self.assertEqual(desk.say("book"), f"{book} ; {going}")
        words = staying.split(" ")
        self.assertGreater(len(words), 1 + 2 * len(office.secrets()))
        self.refuse(Secret, desk.say, "out" + staying[2:])
        for part, column in zip(words[1::2], words[2::2]):
            secret = (part, column) in office.secrets()
            self.refuse(Secret if secret else Pinned, desk.say, f"out {part} {column}")


if __name__ == "__main__":
    unittest.main()
