import unittest

from formkin.bits import MOST_NUMBER
from formkin.kinds import Count, Kind, List, Nested, Text, Truth, Upto, Whole, is_sign, sign_of
from refusals import Alike, Thing

MOST_WHOLE = 2 ** 255 - 1
SIGNS = "".join(chr(number) for number in range(32, 127) if number != 37)

# Each kind, with its word, its words, whether it is plain, its shape, its width and its blank.
KINDS = [
    (Truth(), "truth", ["truth"], True, 0, 1, False),
    (Count(), "count", ["count"], True, 0, 0, 0),
    (Whole(), "whole", ["whole"], True, 0, 0, 0),
    (Upto(1), "upto", ["upto", "1"], True, 0, 1, 0),
    (Upto(2), "upto", ["upto", "2"], True, 0, 2, 0),
    (Upto(3), "upto", ["upto", "3"], True, 0, 2, 0),
    (Upto(4), "upto", ["upto", "4"], True, 0, 3, 0),
    (Upto(127), "upto", ["upto", "127"], True, 0, 7, 0),
    (Upto(128), "upto", ["upto", "128"], True, 0, 8, 0),
    (Upto(255), "upto", ["upto", "255"], True, 0, 8, 0),
    (Upto(256), "upto", ["upto", "256"], True, 0, 0, 0),
    (Upto(MOST_NUMBER), "upto", ["upto", str(MOST_NUMBER)], True, 0, 0, 0),
    (Text(), "text", ["text"], True, 1, 0, ""),
    (Text(100), "text", ["text"], True, 1, 0, ""),
    (Text(99), "text", ["text", "99"], True, 1, 0, ""),
    (Text(1), "text", ["text", "1"], True, 1, 0, ""),
    (Nested("name"), "form", ["form", "name"], False, 1, 0, None),
]
LISTS = [(List(row[0]), "list", ["list"] + row[2], False, 1, 0, []) for row in KINDS]

# Things that no plain kind suits.
OTHERS = [
    None, 1.0, 0.0, 0.5, float("nan"), b"", b"a", [], [0], [False], [""], (), (0,), {}, {0: 0}, {0}, range(1),
    iter([]), Thing(), Thing, Alike(), len, Count(),
]
NUMBERS = [0, 1, -1, 2, 255, 256, 10 ** 5000, -10 ** 5000]
TEXTS = ["", "a", "no", "0", "1", "True", "a b", "~ !\"#$&\\"]


def is_same(one, other):
    """Whether two things are the same, by kinds too."""
    return type(one) is type(other) and one == other


class Kinds(unittest.TestCase):
    def test_each_stands_under_kind(self):
        for kind in (Truth, Count, Whole, Upto, Text, List, Nested):
            self.assertEqual(kind.__bases__, (Kind,))
        Kind()

    def test_fields(self):
        item = Truth()
        self.assertEqual((Upto(7).most, Text(9).most, Text().most, Nested("name").name), (7, 9, 100, "name"))
        self.assertIs(List(item).item, item)
        self.assertEqual((Upto(most=7).most, Text(most=9).most, Nested(name="name").name), (7, 9, "name"))
        self.assertIs(List(item=item).item, item)

    def test_by_themselves_they_refuse_nothing(self):
        for thing in OTHERS + NUMBERS + TEXTS + [True, False]:
            Upto(thing), Text(thing), List(thing), Nested(thing)

    def test_what_is_told_of_each(self):
        for kind, word, words, plain, shape, width, blank in KINDS + LISTS:
            with self.subTest(" ".join(words)):
                self.assertEqual(kind.word(), word)
                self.assertEqual(kind.words(), words)
                self.assertIs(type(kind.words()), list)
                self.assertIs(kind.is_plain(), plain)
                self.assertTrue(is_same(kind.shape(), shape))
                self.assertTrue(is_same(kind.width(), width))
                self.assertTrue(is_same(kind.blank(), blank))
                self.assertIs(kind.suits(kind.blank()), True)

    def test_each_width(self):
        for most in range(1, 600):
            self.assertEqual(Upto(most).width(), len(f"{most:b}") if most <= 255 else 0)

    def test_words_are_the_askers_own(self):
        for kind, word, words, plain, shape, width, blank in KINDS + LISTS:
            kind.words().append("more")
            kind.words().clear()
            self.assertEqual(kind.words(), words)

    def test_the_blank_of_a_list_is_a_new_one_each_time(self):
        for kind in [List(Truth()), List(Nested("name"))]:
            blank = kind.blank()
            blank.append(True)
            self.assertEqual(kind.blank(), [])
            self.assertIsNot(kind.blank(), kind.blank())


class Suits(unittest.TestCase):
    def need(self, kind, good, bad):
        for value in good:
            with self.subTest(repr(type(value))):
                self.assertIs(kind.suits(value), True)
        for value in bad:
            with self.subTest(repr(type(value))):
                self.assertIs(kind.suits(value), False)

    def test_truth(self):
        self.need(Truth(), [True, False], OTHERS + NUMBERS + TEXTS)

    def test_count(self):
        good = [0, 1, 2, 255, 256, MOST_NUMBER - 1, MOST_NUMBER]
        self.need(Count(), good, OTHERS + TEXTS + [True, False, -1, MOST_NUMBER + 1, 10 ** 5000])

    def test_whole(self):
        good = [0, 1, -1, MOST_WHOLE, -MOST_WHOLE, -MOST_WHOLE - 1]
        bad = [True, False, MOST_WHOLE + 1, -MOST_WHOLE - 2, MOST_NUMBER, 10 ** 5000, -10 ** 5000]
        self.need(Whole(), good, OTHERS + TEXTS + bad)

    def test_upto(self):
        for most in [1, 2, 7, 255, 256, 1000, MOST_NUMBER]:
            good = [0, 1, most - 1, most]
            self.need(Upto(most), good, OTHERS + TEXTS + [True, False, -1, -most, most + 1, 10 ** 5000])

    def test_text(self):
        for kind, most in [(Text(), 100), (Text(100), 100), (Text(99), 99), (Text(1), 1), (Text(3), 3)]:
            good = ["", "a", "~", " ", "a" * most, "~" * (most - 1), SIGNS[:most]]
            bad = OTHERS + NUMBERS + [True, False]
            self.need(kind, good, bad + ["a" * (most + 1), " " * (most + 1), "a" * 4000])

    def test_each_sign_of_a_text(self):
        for number in range(400):
            good = 32 <= number <= 126 and number != 37
            for text in [chr(number), "a" + chr(number), chr(number) + "a", "ab" + chr(number) + "c"]:
                self.assertIs(Text(4).suits(text), good)

    def test_list_of_each_plain_kind(self):
        for kind, good, bad in [
            (Truth(), [True, False], [0, 1, None, "", []]),
            (Count(), [0, MOST_NUMBER], [-1, MOST_NUMBER + 1, True, 0.0, "0", None]),
            (Whole(), [-MOST_WHOLE - 1, 0, MOST_WHOLE], [MOST_WHOLE + 1, False, "1", None]),
            (Upto(5), [0, 5], [6, -1, True, "", None]),
            (Text(2), ["", "ab"], ["abc", "\n", "\t", 0, None, ["a"]]),
        ]:
            lists = [[], good, good[:1], [good[0]] * 20, [good[-1]] * 19]
            wrong = [[thing] for thing in bad] + [good + [thing] for thing in bad] + [[thing] + good for thing in bad]
            wrong = wrong + [[good[0]] * 21, [good[0]] * 19 + [bad[0]], tuple(good), (), [good], [[]]]
            self.need(List(kind), lists, wrong + [None, True, False, 0, 1, "", "a", {}, {0: 0}, {0}, range(1), Thing()])

    def test_form_suits_all(self):
        self.need(Nested("name"), OTHERS + NUMBERS + TEXTS + [True, False], [])

    def test_list_of_forms(self):
        good = [[], [None], [1, "a", {}, Thing()], [0] * 20, [[]] * 20]
        self.need(List(Nested("name")), good, [[0] * 21, (), (1,), None, {}, "", "a", 0, True, False, Thing()])

    def test_signs_by_their_numbers(self):
        self.assertEqual("".join(sign_of(number) for number in range(256) if is_sign(number)), SIGNS)
        self.assertTrue(all(is_sign(ord(sign)) for sign in SIGNS))

    def test_what_is_asked_is_as_it_was(self):
        value = [1, 2, True]
        List(Count()).suits(value)
        self.assertEqual(repr(value), "[1, 2, True]")


if __name__ == "__main__":
    unittest.main()
