import random
import unittest
from unittest import mock

from chance import book_by_chance, changed_lines, good_book, value_by_chance
from formkin import judge
from formkin.books import book_lines
from formkin.errors import BadValue
from formkin.judge import goes_wrong, wanted
from formkin.reading import read
from formkin.values import need_value
from formkin.writing import written
from refusals import anything, refusal, told
from samples import exchanged, good_value, of_fields, ruin, sample_book, shown

POINT = ["record point", "1 x whole must", "2 y count"]
PICK = POINT + ["choice pick", "1 spot form point", "2 word text 3", "5 bits list truth"]


class Wanted(unittest.TestCase):
    def need(self, one, other, value, should):
        before = shown(value)
        self.assertEqual(shown(wanted(one, other, value)), shown(should))
        self.assertEqual(shown(value), before)

    def test_fields_by_their_numbers(self):
        one = of_fields("1 a count", "2 b text", "3 c truth")
        other = of_fields("3 a truth", "2 d text", "1 b count", "9 e whole = -5", "10 f list truth", "11 g text must")
        self.need(one, other, {"a": 5, "b": "x", "c": True},
                  {"a": True, "d": "x", "b": 5, "e": -5, "f": [], "g": ""})
        self.need(one, other, {"a": 0, "b": "", "c": False},
                  {"a": False, "d": "", "b": 0, "e": -5, "f": [], "g": ""})

    def test_fields_that_the_other_one_has_not(self):
        one = of_fields(
            "1 a count", "2 b text = ab", "3 c list upto 7", "4 d form point", "5 e whole must", "6 f form pick",
            "7 g truth", ahead=PICK)
        other = of_fields("3 z count = 4", "gone 1 7")
        value = {
            "a": 300, "b": "", "c": [1, 2, 3], "d": {"x": 1, "y": 0}, "e": 0, "f": ("word", "hi"), "g": True,
        }
        self.need(one, other, value, {"z": [1, 2, 3], "": [
            (1, 0, (172, 2)), (2, 1, ()), (4, 1, (4, 2)), (5, 0, (0,)), (6, 1, (9, 2, 104, 105)), (7, 0, (1,)),
        ]})
        # What the one leaves out it didn't write.
        value = {"a": 0, "b": "ab", "c": [], "d": None, "e": -1, "f": None, "g": False}
        self.need(one, other, value, {"z": [], "": [(5, 0, (1,))]})
        self.need(of_fields("1 a count"), of_fields(), {"a": 0}, {})

    def test_what_stands_there_is_as_it_is(self):
        for kind, thing in [("truth", True), ("count", 7), ("whole", -7), ("text", "a"), ("list truth", [True, False])]:
            for twin in ("truth", "count", "whole", "upto 3", "text 1", "list count", "form point", "form pick"):
                one, other = of_fields("1 a " + kind), of_fields("1 b " + twin, ahead=PICK)
                self.need(one, other, {"a": thing}, {"b": thing})
        for twin in ("count", "list form point", "text", "form pick", "list truth"):
            other = of_fields("1 b " + twin, ahead=PICK)
            self.need(of_fields("1 a form point", ahead=POINT), other, {"a": {"x": 1, "y": 2}}, {"b": {"x": 1, "y": 2}})
            self.need(of_fields("1 a form point", ahead=POINT), other, {"a": None}, {"b": None})

    def test_forms_within_forms(self):
        one = of_fields("1 a form point", "2 b list form point", ahead=POINT)
        twin = ["record spot", "2 up count", "5 more text = z", "1 right whole"]
        other = of_fields("2 many list form spot", "1 one form spot", ahead=twin)
        self.need(one, other, {"a": {"x": 1, "y": 2}, "b": [{"x": 0, "y": 0}, {"x": 3, "y": 4}]}, {
            "one": {"right": 1, "up": 2, "more": "z"},
            "many": [{"right": 0, "up": 0, "more": "z"}, {"right": 3, "up": 4, "more": "z"}],
        })
        self.need(one, other, {"a": None, "b": []}, {"one": None, "many": []})
        less = of_fields("1 one form spot", "2 many list form spot", ahead=["record spot", "2 up count"])
        self.need(one, less, {"a": {"x": 1, "y": 2}, "b": [{"x": 0, "y": 0}]}, {
            "one": {"up": 2, "": [(1, 0, (2,))]}, "many": [{"up": 0, "": [(1, 0, (0,))]}],
        })

    def test_choices(self):
        one = of_fields("1 a form pick", "2 b list form pick", ahead=PICK)
        twin = ["record spot", "1 right whole must", "choice take", "1 place form spot", "2 said text", "7 other truth"]
        other = of_fields("1 c form take", "2 d list form take", ahead=twin)
        # The bits are none of the other one's, so they are as they are.
        self.need(one, other, {"a": ("word", "x"), "b": [("spot", {"x": 4, "y": 5}), ("bits", [True])]}, {
            "c": ("said", "x"), "d": [("place", {"right": 4, "": [(2, 0, (5,))]}), ("bits", [True])],
        })
        # Forms of unlike sorts, too.
        unlike = of_fields("1 c form spot", "2 d list form spot", ahead=twin[:2])
        value = {"a": ("word", "x"), "b": [("spot", {"x": 4, "y": 5})]}
        self.need(one, unlike, value, {"c": ("word", "x"), "d": [("spot", {"x": 4, "y": 5})]})

    def test_what_is_no_value_of_the_one(self):
        book = sample_book()
        for call in (wanted, goes_wrong):
            for other in (book, of_fields(), of_fields("1 a truth must")):
                for thing in anything():
                    self.assertEqual(told(refusal(call, book, other, thing)), (BadValue, {"path": []}))
                for path, thing in [
                    (["ready"], 1), (["size"], True), (["label"], "%"), (["shelf", "marks", 1, "spot", "x"], None),
                    (["best"], None), (["points", 1], ()), (["mark", "many"], [None]),
                ]:
                    wrong = exchanged(good_value(), path, thing)
                    error = refusal(call, book, other, wrong)
                    self.assertEqual(told(error), told(refusal(need_value, book, wrong)))

    def test_what_is_told_is_the_askers_own(self):
        one = of_fields("1 a form point", "2 b list count", "3 c form pick", "4 d list form point", ahead=PICK)
        value = {"a": {"x": 1, "y": 2}, "b": [1, 2], "c": ("bits", [True]), "d": [{"x": 1, "y": 2}]}
        for other in (
            one, of_fields("1 a count", "2 b text", "3 c text", "4 d list text", "5 e list truth"), of_fields(),
            of_fields("3 c form pick", ahead=["choice pick", "1 a truth"]),
            of_fields("1 a form pick", "3 c form none", "4 d list form pick", ahead=PICK + ["record none"]),
        ):
            before = shown(value)
            first = wanted(one, other, value)
            second = shown(wanted(one, other, value))
            ruin(first)
            self.assertEqual(shown(value), before)
            self.assertEqual(shown(wanted(one, other, value)), second)


class GoesWrong(unittest.TestCase):
    def need(self, word, one, other, value):
        before = shown(value)
        self.assertEqual(goes_wrong(one, other, value), word)
        self.assertEqual(shown(value), before)

    def test_plain_fields(self):
        for word, kind, twin, thing in [
            ("", "count", "count", 5), ("", "count", "upto 5", 5), ("refused", "count", "upto 5", 6),
            ("", "count", "whole", 0), ("other", "count", "whole", 1), ("other", "whole", "count", -1),
            ("other", "truth", "count", True), ("other", "truth", "count", False), ("other", "upto 1", "truth", 1),
            ("refused", "upto 2", "truth", 2), ("refused", "count", "text", 1), ("other", "count", "text", 0),
            ("", "text", "text 3", "abc"), ("refused", "text", "text 3", "abcd"), ("other", "text", "list count", ""),
            ("refused", "text", "count", "a"), ("other", "list truth", "list upto 1", [True]),
            ("", "list upto 1", "list upto 3", [1]), ("other", "list upto 1", "list upto 3", [0, 1]),
            ("refused", "list upto 5", "list count", [0, 1]), ("", "list upto 5", "list count", [5]),
            ("", "count = 5", "count = 5", 5), ("other", "count = 5", "count = 6", 5),
            ("refused", "count = 5", "count = 6", 6), ("", "count = 5", "count = 6", 7),
            ("refused", "count", "count must", 0), ("", "count", "count must", 1),
            ("refused", "count must", "count", 0), ("", "count must", "count", 1),
            ("", "upto 1 = 1", "whole = 1", 1), ("", "upto 1 = 1", "whole = 1", 0),
            ("other", "upto 1 = 1", "whole", 1), ("", "list count", "list truth", []),
        ]:
            with self.subTest(kind=kind, twin=twin, thing=thing):
                self.need(word, of_fields("1 a " + kind), of_fields("1 b " + twin), {"a": thing})

    def test_fields_that_one_alone_has(self):
        self.need("", of_fields("1 a count", "2 b text"), of_fields(), {"a": 5, "b": "x"})
        self.need("", of_fields(), of_fields("1 a count = 9", "2 b list truth"), {})
        self.need("refused", of_fields(), of_fields("1 a count must"), {})
        self.need("refused", of_fields("2 a truth"), of_fields("1 a list truth must"), {"a": True})

    def test_forms(self):
        one = of_fields("1 a form point", "2 b list form point", "3 c form pick", ahead=PICK)
        nought = {"a": None, "b": [], "c": None}
        less = of_fields(
            "1 a form point", "2 b list form point", "3 c form pick",
            ahead=["record point", "1 x whole must", "choice pick", "1 spot form point"])
        must = of_fields("1 a form point", "2 b list form point", ahead=POINT + ["3 z text must"])
        for word, other, value in [
            ("", less, nought), ("", less, {**nought, "a": {"x": 1, "y": 2}}),
            ("", less, {**nought, "b": [{"x": 1, "y": 2}]}),
            ("", less, {**nought, "c": ("spot", {"x": 1, "y": 2})}), ("refused", less, {**nought, "c": ("word", "")}),
            ("", must, nought), ("refused", must, {**nought, "a": {"x": 1, "y": 2}}),
            ("refused", must, {**nought, "b": [{"x": 1, "y": 2}]}), ("", must, {**nought, "c": ("bits", [])}),
        ]:
            self.need(word, one, other, value)
        unlike = of_fields("1 a form pick", "2 b list form pick", "3 c form point", ahead=PICK)
        for word, value in [
            ("", nought), ("refused", {**nought, "a": {"x": 1, "y": 2}}),
            ("refused", {**nought, "b": [{"x": 1, "y": 0}]}), ("refused", {**nought, "c": ("word", "")}),
        ]:
            self.need(word, one, unlike, value)
        # Read without a word, but as another thing: a pair is no record.
        none = of_fields("3 c form none", ahead=["record none"])
        self.need("other", one, none, {**nought, "c": ("word", "a")})

    def test_handed_back_as_another_row(self):
        # No reading hands back another row, so one is put in its place.
        one = of_fields("1 a count")
        with mock.patch.object(judge, "written", side_effect=[[4, 5], [4, 6]]):
            self.need("back", one, one, {"a": 5})
        with mock.patch.object(judge, "written", side_effect=[[4, 5], [4, 5]]):
            self.need("", one, one, {"a": 5})

    def test_each_word_is_what_comes_of_reading(self):
        source = random.Random(41)
        words = {}
        for step in range(300):
            one = book_by_chance(source)
            other = good_book(source, changed_lines, book_lines(one))
            for again in range(5):
                value = value_by_chance(source, one, one.head(), False)
                word = goes_wrong(one, other, value)
                words[word] = words.get(word, 0) + 1
                if word == "refused":
                    refusal(read, other, written(one, value))
                else:
                    same = shown(read(other, written(one, value))) == shown(wanted(one, other, value))
                    self.assertEqual(word, "" if same else "other")
        self.assertEqual(sorted(words), ["", "other", "refused"])


if __name__ == "__main__":
    unittest.main()
