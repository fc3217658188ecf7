"""The interface of tallyveil/errors.py."""

import unittest

from tallyveil import errors

OF_A_TEXT = ("NoHouse", "NoTable", "NoText", "NoPlace", "TooFar", "NoSecret", "NoBase", "NoRow")
EVERY = OF_A_TEXT + ("Secret", "Pinned")
SUMS = [("down", "all", "x"), ("across", "a")]


def made(name):
    if name == "Secret":
        return errors.Secret(("a", "x"))
    if name == "Pinned":
        return errors.Pinned(("a", "x"), 3, 4, [], [])
    return getattr(errors, name)("words")


class Bases(unittest.TestCase):
    def test_any_refusal_is_a_value_error(self):
        self.assertEqual(errors.VeilError.__bases__, (ValueError,))

    def test_each_stands_right_under_veil_error(self):
        for name in EVERY:
            with self.subTest(name):
                self.assertEqual(getattr(errors, name).__bases__, (errors.VeilError,))

    def test_none_stands_under_another(self):
        for one in EVERY:
            for other in EVERY:
                under = issubclass(getattr(errors, one), getattr(errors, other))
                self.assertEqual(under, one == other, (one, other))

    def test_each_is_caught_by_its_own_name_alone(self):
        for name in EVERY:
            for other in EVERY:
                with self.subTest(name=name, other=other):
                    with self.assertRaises(getattr(errors, name)) as caught:
                        raise made(name)
                    self.assertEqual(isinstance(caught.exception, getattr(errors, other)), name == other)


class MadeOf(unittest.TestCase):
    def test_the_others_are_made_of_a_text(self):
        for name in ("VeilError",) + OF_A_TEXT:
            with self.subTest(name):
                self.assertEqual(str(getattr(errors, name)("some words")), "some words")

    def test_secret_is_made_of_its_place(self):
        self.assertEqual(errors.Secret(("north", "all")).place, ("north", "all"))

    def test_pinned_is_made_of_its_fields_in_this_order(self):
        error = errors.Pinned(("a", "x"), 3, 10 ** 30, SUMS, [("across", "all")])
        self.assertEqual(error.place, ("a", "x"))
        self.assertEqual(error.least, 3)
        self.assertEqual(error.greatest, 10 ** 30)
        self.assertEqual(error.low_sums, SUMS)
        self.assertEqual(error.high_sums, [("across", "all")])

    def test_pinned_by_no_sums(self):
        error = errors.Pinned(("all", "all"), 0, 0, [], [])
        self.assertEqual((error.least, error.greatest), (0, 0))
        self.assertEqual((error.low_sums, error.high_sums), ([], []))

    def test_the_fields_may_be_named(self):
        error = errors.Pinned(high_sums=[], low_sums=SUMS, greatest=2, least=1, place=("a", "x"))
        self.assertEqual((error.place, error.least, error.greatest), (("a", "x"), 1, 2))
        self.assertEqual((error.low_sums, error.high_sums), (SUMS, []))
        self.assertEqual(errors.Secret(place=("a", "x")).place, ("a", "x"))

    def test_lists_handed_in_and_lists_told_are_apart(self):
        low, high = list(SUMS), list(SUMS)
        error = errors.Pinned(("a", "x"), 3, 4, low, high)
        low.append(("across", "all"))
        high.clear()
        self.assertEqual((error.low_sums, error.high_sums), (SUMS, SUMS))
        error.low_sums.clear()
        self.assertEqual(error.high_sums, SUMS)
        self.assertEqual(low, SUMS + [("across", "all")])

    def test_one_list_for_both_is_kept_twice(self):
        both = list(SUMS)
        error = errors.Pinned(("a", "x"), 3, 4, both, both)
        error.low_sums.clear()
        self.assertEqual((error.high_sums, both), (SUMS, SUMS))

    def test_each_has_words(self):
        for name in EVERY:
            with self.subTest(name):
                self.assertTrue(str(made(name)))


if __name__ == "__main__":
    unittest.main()
