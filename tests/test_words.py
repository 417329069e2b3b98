import unittest

from formkin.words import is_among, is_name, is_whole, number_of, number_text, words_of
from refusals import NO_NUMBERS, NO_TEXTS, Thing


class Wholes(unittest.TestCase):
    def test_whole_numbers(self):
        for number in [0, 1, -1, 127, 2 ** 256, -2 ** 300, 10 ** 5000]:
            self.assertIs(is_whole(number), True)

    def test_what_is_none(self):
        for thing in NO_NUMBERS:
            with self.subTest(repr(thing)):
                self.assertIs(is_whole(thing), False)

    def test_among_counts_both_bounds(self):
        for number, answer in [(2, False), (3, True), (4, True), (5, True), (6, False)]:
            self.assertIs(is_among(number, 3, 5), answer)

    def test_among_below_nought(self):
        for number, answer in [(-6, False), (-5, True), (-3, True), (-2, False), (5, False)]:
            self.assertIs(is_among(number, -5, -3), answer)

    def test_among_one_number_and_none(self):
        self.assertIs(is_among(7, 7, 7), True)
        self.assertIs(is_among(7, 8, 6), False)

    def test_among_of_what_is_no_number(self):
        for thing in NO_NUMBERS:
            with self.subTest(repr(thing)):
                self.assertIs(is_among(thing, -1000, 1000), False)


class Names(unittest.TestCase):
    def test_names(self):
        for name in ["a", "z", "name", "abcdefghijkl", "mnopqrstuvwx", "zzzzzzzzzzzz"]:
            self.assertIs(is_name(name), True)

    def test_every_small_letter(self):
        for letter in "abcdefghijklmnopqrstuvwxyz":
            self.assertIs(is_name(letter), True)

    def test_none_and_thirteen_letters(self):
        self.assertIs(is_name(""), False)
        self.assertIs(is_name("abcdefghijklm"), False)
        self.assertIs(is_name("a" * 4000), False)

    def test_every_other_sign(self):
        for number in list(range(0, 97)) + list(range(123, 400)):
            with self.subTest(number):
                self.assertIs(is_name(chr(number)), False)
                self.assertIs(is_name("ab" + chr(number)), False)
                self.assertIs(is_name(chr(number) + "ab"), False)

    def test_what_is_no_text(self):
        for thing in NO_TEXTS + [["a"], ("a", "b"), {"a": "b"}, b"a"]:
            with self.subTest(repr(thing)):
                self.assertIs(is_name(thing), False)


class Numbers(unittest.TestCase):
    def test_number_text(self):
        self.assertEqual(number_text(0), "0")
        self.assertEqual(number_text(7), "7")
        self.assertEqual(number_text(300), "300")
        self.assertEqual(number_text(-1), "-1")
        self.assertEqual(number_text(-120), "-120")
        self.assertEqual(number_text(2 ** 64), "18446744073709551616")

    def test_number_of(self):
        for word, number in [("0", 0), ("5", 5), ("10", 10), ("300", 300), ("-1", -1), ("-90", -90), ("1002", 1002)]:
            with self.subTest(word):
                self.assertEqual(number_of(word), number)
                self.assertIs(type(number_of(word)), int)

    def test_each_figure(self):
        for number in range(10):
            self.assertEqual(number_of(str(number)), number)

    def test_there_and_back(self):
        bounds = [2 ** 7, 2 ** 255, 2 ** 256, 10 ** 79, 10 ** 80]
        numbers = list(range(-300, 300)) + [bound + more for bound in bounds for more in (-2, -1)]
        for number in numbers + [-number for number in numbers]:
            self.assertEqual(number_of(number_text(number)), number)

    def test_eighty_figures_and_one_more(self):
        self.assertEqual(number_of("9" * 80), 10 ** 80 - 1)
        self.assertEqual(number_of("-" + "9" * 80), 1 - 10 ** 80)
        self.assertIsNone(number_of("1" * 81))
        self.assertIsNone(number_of("-" + "1" * 81))
        self.assertIsNone(number_of("1" * 4000))
        self.assertIsNone(number_of("1" * 5000))

    def test_a_nought_ahead(self):
        for word in ["00", "01", "007", "-01", "-00", "0" * 80, "0" + "1" * 79]:
            with self.subTest(word):
                self.assertIsNone(number_of(word))

    def test_nought_has_no_sign(self):
        self.assertIsNone(number_of("-0"))

    def test_other_words(self):
        wrong = ["", "-", "--1", "-1-", "1-", "+1", "- 1", " 1", "1 ", "1 2", "1\n", "\n1", "\t1", "1_0", "1.0", "1e3"]
        for word in wrong + ["0x1", "a", "1a", "a1", "\u00b2", "\u0663", "1\u0663", "\uff11", "\u22121"]:
            with self.subTest(word):
                self.assertIsNone(number_of(word))

    def test_every_other_sign(self):
        for number in range(300):
            if chr(number) not in "0123456789":
                with self.subTest(number):
                    self.assertIsNone(number_of("1" + chr(number)))
                    self.assertIsNone(number_of("1" + chr(number) + "1"))

    def test_what_is_no_text(self):
        for thing in NO_TEXTS + [5, -5, ["1"], ("1",), b"1", Thing()]:
            with self.subTest(repr(thing)):
                self.assertIsNone(number_of(thing))


class Words(unittest.TestCase):
    def test_words(self):
        self.assertEqual(words_of("one"), ["one"])
        self.assertEqual(words_of("one two"), ["one", "two"])
        self.assertEqual(words_of("1 name list upto 7"), ["1", "name", "list", "upto", "7"])
        self.assertEqual(words_of("= = ="), ["=", "=", "="])

    def test_the_empty_text_and_blanks_alone(self):
        for line in ["", " ", "  "]:
            self.assertIsNone(words_of(line))

    def test_blanks_that_stand_wrong(self):
        for line in [" one", "one ", "one  two", " one two", "one two ", "one two  three", "  one"]:
            with self.subTest(line):
                self.assertIsNone(words_of(line))

    def test_nothing_but_blanks_parts_words(self):
        self.assertEqual(words_of("\t"), ["\t"])
        self.assertEqual(words_of("\n"), ["\n"])
        self.assertEqual(words_of("one\ttwo"), ["one\ttwo"])
        self.assertEqual(words_of("one\ntwo three\n"), ["one\ntwo", "three\n"])
        self.assertEqual(words_of("\t \n"), ["\t", "\n"])
        self.assertEqual(words_of("\tone \ttwo"), ["\tone", "\ttwo"])

    def test_what_is_no_text(self):
        for thing in NO_TEXTS + [["one"], b"one two"]:
            with self.subTest(repr(thing)):
                self.assertIsNone(words_of(thing))

    def test_what_is_told_is_the_askers_own(self):
        words = words_of("one two")
        words.append("three")
        self.assertEqual(words_of("one two"), ["one", "two"])


if __name__ == "__main__":
    unittest.main()
