import copy
import itertools
import unittest

from formkin.bits import MOST_NUMBER
from formkin.books import Book, book_lines, book_of, weight
from formkin.errors import BadValue
from formkin.forms import Choice, Field, Record
from formkin.kinds import Count, List, Nested, Text, Truth, Upto, Whole
from formkin.values import are_same, blank_value, copied, count_parts, least_value, need_value
from refusals import Alike, Thing, anything, refusal, told
from samples import LINES, exchanged, good_value, of_fields, point, ruin, sample_book, shown, thing_at, turned

NO_TRUTHS = [0, 1, None, "", "yes", [], [True], (), 1.0, Thing(), Alike()]
NO_COUNTS = [True, False, None, -1, MOST_NUMBER + 1, 10 ** 5000, 0.0, 1.0, "", "1", [], [0], (), {}, Alike()]
NO_WHOLES = [True, False, None, -2 ** 255 - 1, 2 ** 255, 0.0, -1.0, "", "-1", [], (0,), {}, Alike()]
NO_LISTS = [None, True, 0, "", "ab", (), (0,), {}, {0: 0}, range(2), Thing(), Alike()]
NO_RECORDS = [True, False, 0, "", [], [1], (), ("x", 0), {}, {"x": 0}, Thing(), Alike(), point]
NO_PAIRS = [
    True, 0, "", "spot", [], ["level", 0], (), ("level",), ("level", 0, 0), {}, {"level": 0}, Thing(), Alike(),
    ("", 0), ("no", 0), ("Level", 0), (None, 0), (7, 0), (["level"], 0), (Alike(), 0), (("level",), 0), (b"level", 0),
]


def no_uptos(most):
    return [True, False, None, -1, most + 1, 0.0, "", "1", [], (), Alike()]


def no_texts(most):
    return [
        None, True, 0, 1, [], ["a"], (), ("a",), b"a", {}, Thing(), Alike(), "a" * (most + 1), "%", "\t", "\n", "\x1f",
        "\x7f", "\xe4", "\u20ac", "a%",
    ]


def more_names(value):
    """The record with other names: one more, one fewer, one exchanged."""
    first = [name for name in value if name != ""][0]
    fewer = {name: part for name, part in value.items() if name != first}
    found = [fewer]
    for name in ["other", "", 1, None, True, ("x",), b"x", Thing(), 0.5]:
        for base in (value, fewer):
            if name not in base:
                found.append({**base, name: 0})
    return found


def no_rests(own, free):
    """Things that are no rests of a record that has the field number own and has free, two rising ones, not."""
    low, high = free
    good = (low, 0, (5,))
    rows = [
        [5], None, 5, "", "5", b"\x05", (256,), (-1,), (True,), (False,), (5.0,), ("5",), (None,), ((5,),),
        (Alike(),), range(1), Thing(),
    ]
    no_number_rows = [(), (128,), (5, 5), (128, 0), (128, 128), (0, 0), (255,) * 36 + (16,), (255,) * 37]
    tails = [(shape, (5,)) for shape in (2, 3, -1, None, True, False, "0", 1.0, 0.0, Alike())]
    tails += [(shape, row) for shape in (0, 1) for row in rows] + [(0, row) for row in no_number_rows]
    one = [None, 5, "", [low, 0, (5,)], (), (low,), (low, 0), (low, 0, (5,), 0), {low: 5}, Thing(), Alike()]
    one += [(number, 0, (5,)) for number in (0, 201, -1, own, True, None, "1", 1.0, str(low), Alike(), 10 ** 5000)]
    one += [(low, shape, row) for shape, row in tails]
    two = [[good, (high, shape, row)] for shape, row in tails] + [[good, good], [(high, 0, (5,)), good]]
    whole = [None, 0, "", (), (good,), {}, {0: good}, [], Thing(), Alike(), good]
    return whole + [[rest] for rest in one] + two + [[good, (high, 1, ()), (high, 1, ())]]


# Whole things of the sample value by their paths, in the order of the document, and what can't stand there.
FAULTS = [
    ([], [None] + NO_RECORDS),
    (["ready"], NO_TRUTHS),
    (["size"], NO_COUNTS),
    (["depth"], NO_WHOLES),
    (["level"], no_uptos(7)),
    (["label"], no_texts(100)),
    (["shelf"], [None] + NO_RECORDS),
    (["shelf", "marks"], NO_LISTS + [[("word", "")] * 21]),
    (["shelf", "marks", 0], [None] + NO_PAIRS),
    (["shelf", "marks", 0, "word"], no_texts(8)),
    (["shelf", "marks", 1], [None] + NO_PAIRS),
    (["shelf", "marks", 1, "spot"], [None] + NO_RECORDS),
    (["shelf", "marks", 1, "spot", "x"], NO_WHOLES),
    (["shelf", "marks", 1, "spot", "y"], NO_WHOLES),
    (["shelf", "marks", 1, "spot", "tag"], no_texts(3)),
    (["shelf", "marks", 2, "bits"], NO_LISTS + [[True] * 21]),
    (["shelf", "marks", 2, "bits", 0], NO_TRUTHS),
    (["shelf", "marks", 2, "bits", 1], NO_TRUTHS),
    (["shelf", "marks", 3, "bits"], NO_LISTS),
    (["shelf", "top"], NO_PAIRS),
    (["shelf", "first"], [None] + NO_RECORDS),
    (["shelf", "first", "x"], NO_WHOLES),
    (["shelf", "first", "y"], NO_WHOLES),
    (["shelf", "first", "tag"], no_texts(3)),
    (["shelf", "names"], NO_LISTS + [["a"] * 21]),
    (["shelf", "names", 0], no_texts(4)),
    (["shelf", "names", 2], no_texts(4)),
    (["shelf", "counts"], NO_LISTS + [[0] * 21]),
    (["shelf", "counts", 1], NO_COUNTS),
    (["shelf", "wholes", 0], NO_WHOLES),
    (["shelf", "wholes", 3], NO_WHOLES),
    (["shelf", "smalls"], NO_LISTS + [[0] * 21, [0] * 100]),
    (["shelf", "smalls", 1], no_uptos(5)),
    (["shelf", "greats", 0], no_uptos(300)),
    (["shelf", "truths", 2], NO_TRUTHS),
    (["spare"], NO_RECORDS),
    (["mark"], NO_PAIRS),
    (["mark", "many"], NO_LISTS + [[point()] * 21]),
    (["mark", "many", 0], [None] + NO_RECORDS),
    (["mark", "many", 0, "x"], NO_WHOLES),
    (["mark", "many", 1, "y"], NO_WHOLES),
    (["best"], [None] + NO_PAIRS),
    (["best", "level"], no_uptos(9)),
    (["points"], NO_LISTS + [[point()] * 21]),
    (["points", 0], [None] + NO_RECORDS),
    (["points", 1, "tag"], no_texts(3)),
]
RECORDS = {
    (): (1, (3, 6)), ("shelf",): (10, (4, 16)), ("shelf", "marks", 1, "spot"): (2, (1, 7)),
    ("shelf", "first"): (5, (3, 200)), ("mark", "many", 1): (9, (8, 10)), ("points", 0): (2, (3, 4)),
}


def bad(path):
    return BadValue, {"path": list(path)}


def fault(book, value):
    return told(refusal(need_value, book, value))


class Good(unittest.TestCase):
    def test_a_good_value(self):
        book = sample_book()
        self.assertIsNone(need_value(book, good_value()))
        self.assertIsNone(need_value(book, turned(good_value())))

    def test_what_is_handed_in_is_as_it_was(self):
        book = sample_book()
        value = good_value()
        need_value(book, value)
        self.assertEqual(repr(value), repr(good_value()))
        wrong = exchanged(good_value(), ["points", 1, "tag"], "abcd")
        before = repr(wrong)
        refusal(need_value, book, wrong)
        self.assertEqual(repr(wrong), before)
        self.assertEqual(book_lines(book), LINES)

    def test_plain_edges(self):
        for words, things in [
            ("truth", [True, False]), ("count", [0, 1, MOST_NUMBER]), ("whole", [-2 ** 255, -1, 0, 2 ** 255 - 1]),
            ("upto 1", [0, 1]), (f"upto {MOST_NUMBER}", [0, MOST_NUMBER]), ("text 1", ["", " ", "~", "\"", "\\"]),
            ("text", ["", "a" * 100, "".join(chr(sign) for sign in range(32, 127) if sign != 37)]),
        ]:
            for end in ("", " must"):
                book = of_fields("1 a " + words + end)
                for thing in things:
                    self.assertIsNone(need_value(book, {"a": thing}))
                book = of_fields("1 a list " + words + end)
                for many in (0, 1, 20):
                    for thing in things:
                        self.assertIsNone(need_value(book, {"a": [thing] * many}))

    def test_forms_that_may_lack_and_that_may_not(self):
        ahead = ["record one", "choice two", "1 a form one", "2 b list form one"]
        book = of_fields("1 a form one", "2 b form two", "3 c list form two", "4 d list form one", ahead=ahead)
        empty = {"a": None, "b": None, "c": [], "d": []}
        self.assertIsNone(need_value(book, empty))
        self.assertIsNone(need_value(book, {"a": {}, "b": ("a", {}), "c": [("b", [])] * 20, "d": [{}, {}]}))
        self.assertEqual(fault(book, {**empty, "d": [{}, None]}), bad(["d", 1]))
        self.assertEqual(fault(book, {**empty, "c": [None]}), bad(["c", 0]))
        self.assertEqual(fault(book, {**empty, "b": ("a", None)}), bad(["b", "a"]))
        self.assertEqual(fault(book, {**empty, "b": ("b", None)}), bad(["b", "b"]))
        self.assertEqual(fault(book, {**empty, "b": ("b", [None])}), bad(["b", "b", 0]))
        book = of_fields("1 a form one must", ahead=ahead)
        self.assertIsNone(need_value(book, {"a": {}}))
        self.assertEqual(fault(book, {"a": None}), bad(["a"]))

    def test_a_record_without_fields(self):
        book = of_fields()
        self.assertIsNone(need_value(book, {}))
        self.assertIsNone(need_value(book, {"": [(1, 0, (0,))]}))
        for thing in [None, [], (), "", 0, False, {"a": 1}, {None: 1}, {"": []}, {"": None}, {0: [(1, 0, (0,))]}]:
            self.assertEqual(fault(book, thing), bad([]))

    def test_rests_at_their_edges(self):
        book = of_fields("5 a truth", "gone 6")
        for rests in [
            [(1, 0, (0,))], [(200, 0, (127,))], [(6, 0, (128, 1))], [(4, 1, ())], [(6, 1, (0,) * 300)],
            [(1, 0, (255,) * 36 + (15,))], [(1, 1, (255, 0, 128))], [(4, 0, (1,)), (6, 1, (2, 3)), (7, 0, (4,))],
            [(number, number % 2, (number % 128,)) for number in range(1, 201) if number != 5],
        ]:
            self.assertIsNone(need_value(book, {"a": True, "": rests}))


class Refused(unittest.TestCase):
    def test_one_thing_exchanged(self):
        book = sample_book()
        for path, things in FAULTS:
            thing_at(good_value(), path)
            for at, thing in enumerate(things):
                with self.subTest(path=path, at=at):
                    wrong = exchanged(good_value(), path, thing)
                    self.assertEqual(fault(book, wrong), bad(path))
                    self.assertEqual(fault(book, turned(wrong)), bad(path))

    def test_names_and_rests_at_each_depth(self):
        book = sample_book()
        for path, (own, free) in RECORDS.items():
            record = thing_at(good_value(), path)
            wrong = more_names(record) + [{**record, "": rests} for rests in no_rests(own, free)]
            self.assertGreater(len(wrong), 100)
            for at, thing in enumerate(wrong):
                with self.subTest(path=path, at=at):
                    self.assertEqual(fault(book, exchanged(good_value(), path, thing)), bad(path))

    def test_names_that_are_no_texts(self):
        class Name:
            def __hash__(self):
                return hash("a")

            def __eq__(self, other):
                return other == "a"

        book = of_fields("1 a truth")
        self.assertEqual(fault(book, {Name(): True}), bad([]))
        self.assertEqual(fault(book, {"a": True, 0: True}), bad([]))
        self.assertEqual(fault(book, {"b": True}), bad([]))
        self.assertEqual(fault(book, {"A": True}), bad([]))

    def test_anything(self):
        for book in (sample_book(), of_fields("1 a truth")):
            for thing in anything() + [Alike(), {"a": 1, "b": True}, {"": []}, book]:
                if not (isinstance(thing, dict) and thing == {"a": 1}):
                    self.assertEqual(fault(book, thing), bad([]))
        self.assertEqual(fault(of_fields("1 a truth"), {"a": 1}), bad(["a"]))
        for thing in anything():
            if thing is not True and thing is not False:
                self.assertEqual(fault(of_fields("1 a truth"), {"a": thing}), bad(["a"]))

    def test_of_two_the_first(self):
        book = sample_book()
        for one, other in itertools.combinations(range(len(FAULTS)), 2):
            path, things = FAULTS[one]
            behind = FAULTS[other][0]
            if behind[:len(path)] != path:
                wrong = exchanged(exchanged(good_value(), path, things[0]), behind, FAULTS[other][1][-1])
                self.assertEqual(fault(book, wrong), bad(path))
                self.assertEqual(fault(book, turned(wrong)), bad(path))

    def test_a_record_itself_is_ahead_of_its_fields(self):
        book = sample_book()
        for path in RECORDS:
            record = thing_at(good_value(), path)
            for name in record:
                for more in ({"other": 0}, {"": []}):
                    if name != "":
                        wrong = exchanged(good_value(), path, {**record, name: Thing(), **more})
                        self.assertEqual(fault(book, wrong), bad(path))

    def test_a_choice_and_a_list_themselves_are_ahead_of_what_they_hold(self):
        book = sample_book()
        self.assertEqual(fault(book, exchanged(good_value(), ["best"], ("none", Thing()))), bad(["best"]))
        self.assertEqual(fault(book, exchanged(good_value(), ["best"], ("level", 10, 0))), bad(["best"]))
        self.assertEqual(fault(book, exchanged(good_value(), ["points"], [Thing()] * 21)), bad(["points"]))
        self.assertEqual(fault(book, exchanged(good_value(), ["points"], [Thing()] * 20)), bad(["points", 0]))
        twenty = [point()] * 19 + [None]
        self.assertEqual(fault(book, exchanged(good_value(), ["points"], twenty)), bad(["points", 19]))

    def test_fields_by_numbers_not_by_lines(self):
        book = Book([Record("a", [Field(9, "a", Truth()), Field(4, "b", Truth()), Field(6, "c", Truth())])])
        wrong = {"a": 0, "b": True, "c": 1}
        self.assertEqual(fault(book, wrong), bad(["c"]))
        self.assertEqual(fault(book, {**wrong, "b": 1}), bad(["b"]))
        self.assertEqual(fault(book, {**wrong, "c": True}), bad(["a"]))

    def test_the_path_is_a_list_of_its_own(self):
        book = sample_book()
        wrong = exchanged(good_value(), ["shelf", "marks", 1, "spot", "x"], None)
        first = refusal(need_value, book, wrong)
        self.assertEqual(type(first.path), list)
        first.path.append("more")
        self.assertEqual(fault(book, wrong), bad(["shelf", "marks", 1, "spot", "x"]))
        top = refusal(need_value, book, 5)
        top.path.append("more")
        self.assertEqual(fault(book, 5), bad([]))


class Least(unittest.TestCase):
    def need(self, book, kind, expected):
        first = least_value(book, kind)
        self.assertEqual(shown(first), shown(expected))
        ruin(first)
        self.assertEqual(shown(least_value(book, kind)), shown(expected))

    def test_plain_kinds_and_lists(self):
        book = sample_book()
        for kind, blank in [
            (Truth(), False), (Count(), 0), (Whole(), 0), (Upto(9), 0), (Text(), ""), (Text(3), ""),
            (List(Truth()), []), (List(Text()), []), (List(Nested("point")), []), (List(Nested("mark")), []),
        ]:
            self.need(book, kind, blank)

    def test_forms(self):
        book = sample_book()
        least = {"x": 0, "y": -4, "tag": ""}
        shelf = {
            "marks": [], "top": None, "first": least, "names": [], "counts": [], "wholes": [], "smalls": [],
            "greats": [], "truths": [],
        }
        house = {
            "ready": True, "size": 0, "depth": 0, "level": 3, "label": "plain", "shelf": shelf, "spare": None,
            "mark": None, "best": ("word", ""), "points": [],
        }
        for name, expected in [("point", least), ("mark", ("word", "")), ("shelf", shelf), ("house", house)]:
            self.need(book, Nested(name), expected)
        blank = blank_value(book)
        self.assertEqual(shown(blank), shown(house))
        self.assertIsNone(need_value(book, blank))
        ruin(blank)
        self.assertEqual(shown(blank_value(book)), shown(house))
        self.assertEqual(book_lines(book), LINES)

    def test_the_field_of_a_choice_that_weighs_least(self):
        ahead = [
            "record empty", "record one", "1 a truth must", "record two", "1 a form one must", "2 b count = 5",
            "choice pick",
        ]
        for fields, expected in [
            (["1 a form one", "2 b form empty", "3 c form two"], ("b", {})),
            (["1 a form one", "2 b form two"], ("a", {"a": False})),
            (["2 b form one", "1 a form two"], ("b", {"a": False})),
            (["1 a form two"], ("a", {"a": {"a": False}, "b": 5})),
            (["9 a text", "2 b truth"], ("b", False)),
            (["1 a form empty", "2 b truth"], ("a", {})),
            (["2 a form empty", "1 b truth"], ("b", False)),
            (["1 a form one", "2 b list form two"], ("b", [])),
            (["1 a form one", "2 b upto 9", "3 c text"], ("b", 0)),
            (["1 a form one", "7 c whole", "5 b form one"], ("c", 0)),
        ]:
            book = book_of(ahead + fields + ["record head", "1 a form pick", "2 b form pick must"])
            self.need(book, Nested("pick"), expected)
            self.need(book, Nested("head"), {"a": None, "b": expected})

    def test_choices_of_choices(self):
        lines = ["choice a", "1 x count"]
        for ahead, name in zip("abcdef", "bcdefg"):
            lines += [f"choice {name}"] + [f"{number} {letter} form {ahead}" for number, letter in enumerate("xyz", 1)]
        book = book_of(lines + ["record head", "1 a form g must", "2 b form g"])
        value = ("x", 0)
        for step in range(6):
            value = ("x", value)
        self.assertEqual(shown(blank_value(book)), shown({"a": value, "b": None}))

    def test_musts_of_all_kinds(self):
        book = of_fields(
            "1 a truth must", "2 b count must", "3 c whole must", "4 d upto 5 must", "5 e text must",
            "6 f list truth must", "7 g form one must", "8 h list form one must",
            ahead=["record one", "1 a upto 5 = 4", "2 b truth = yes", "3 c text = abc", "4 d whole = -1"])
        one = {"a": 4, "b": True, "c": "abc", "d": -1}
        value = {"a": False, "b": 0, "c": 0, "d": 0, "e": "", "f": [], "g": one, "h": []}
        self.assertEqual(shown(blank_value(book)), shown(value))

    def test_a_list_that_was_told_as_a_default_is_not_handed_out(self):
        told_list = []
        book = Book([Record("a", [Field(1, "x", List(Truth()), False, told_list)])])
        blank_value(book)["x"].append(True)
        least_value(book, Nested("a"))["x"].append(True)
        self.assertEqual(told_list, [])
        self.assertEqual(book.head().fields[0].default, [])
        self.assertEqual(shown(blank_value(book)), shown({"x": []}))

    def test_the_greatest_form(self):
        tens = [Field(number, "abcdefghij"[number - 1], Truth(), True) for number in range(1, 11)]
        elevens = [Field(number, "abcdefghi"[number - 1], Nested("ten"), True) for number in range(1, 10)]
        book = Book([Record("ten", tens), Record("head", elevens)])
        self.assertEqual(weight(book, book.head()), 100)
        self.assertEqual(count_parts(blank_value(book)), 100)


class Parts(unittest.TestCase):
    def test_parts(self):
        for value, parts in [
            ({}, 1), ({"a": True}, 2), ({"a": 0, "b": ""}, 3), ({"a": None}, 2), ({"a": "abc"}, 2), ({"a": []}, 2),
            ({"a": [1, 2, 3]}, 5), ({"a": ["ab", ""]}, 4), ({"a": ("b", 1)}, 3), ({"a": ("b", None)}, 3),
            ({"a": ("b", ("c", {}))}, 4), ({"a": ("b", [("c", 1), ("d", [])])}, 7), ({"a": {"b": {"c": 0}}}, 4),
            ({"a": [{}, {"b": 1}]}, 5), ({"": [(1, 0, (0,))]}, 2), ({"": [(1, 0, (0,)), (2, 1, (1, 2, 3))]}, 3),
            ({"a": 5, "": [(9, 1, ())]}, 3), ({"a": [{"": [(9, 1, ()), (10, 1, ())]}]}, 5),
            ({"a": ("b", {"c": 1, "": [(9, 1, ())]})}, 5),
        ]:
            self.assertEqual(shown(count_parts(value)), shown(parts), value)

    def test_parts_of_plain_things(self):
        for value in (True, False, 0, 5, -1, "", "abcdef", None, []):
            self.assertEqual(count_parts(value), 1)
        self.assertEqual(count_parts([0, 0]), 3)
        self.assertEqual(count_parts(("a", 0)), 2)

    def test_parts_of_the_sample(self):
        value = good_value()
        self.assertEqual(count_parts(value), 77)
        self.assertEqual(repr(value), repr(good_value()))
        self.assertEqual(count_parts(copy.deepcopy(turned(value))), 77)

    def test_many_parts(self):
        value = {"a": [{"b": [0] * 18} for step in range(20)]}
        self.assertEqual(count_parts(value), 2 + 20 * 20)


class Copies(unittest.TestCase):
    def test_a_copy_is_the_same_and_its_own(self):
        for value in (good_value(), {}, {"a": [[], {}], "b": ("c", [{}])}, [], (), None, True, 0, "a"):
            before = shown(value)
            made = copied(value)
            self.assertEqual(shown(made), before)
            ruin(made)
            self.assertEqual(shown(value), before)

    def test_the_same_by_kinds(self):
        things = [
            True, False, 0, 1, -1, "", "a", "0", None, [], [0], [1], [True], [0, 1], [[]], (), (0,), (1,), ("a", 1),
            ("a", True), ["a", 1], {}, {"a": 1}, {"a": True}, {"b": 1}, {"a": 1, "b": 1}, {"": 1}, {"a": []},
            {"a": [1]}, {"a": [True]}, {"a": ()}, {"a": {"b": 0}}, {"a": {"b": False}}, good_value(),
            exchanged(good_value(), ["ready"], 0), exchanged(good_value(), ["shelf", "truths", 1], 1),
            exchanged(good_value(), ["mark", "many", 1, ""], [(1, 0, (0,)), (7, 1, [])]),
        ]
        for one in things:
            for other in things:
                self.assertIs(are_same(one, copy.deepcopy(other)), shown(one) == shown(other), (one, other))
        self.assertIs(are_same(good_value(), turned(good_value())), True)


if __name__ == "__main__":
    unittest.main()
