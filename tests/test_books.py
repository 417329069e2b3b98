import itertools
import unittest

from formkin.bits import MOST_NUMBER
from formkin.books import Book, book_lines, weight
from formkin.errors import BadBook
from formkin.forms import Choice, Field, Form, Record
from formkin.kinds import Count, Kind, List, Nested, Text, Truth, Upto, Whole
from refusals import Alike, Thing, anything, refusal, told

ORDER = ["name", "many", "field", "number", "kind", "default", "great"]


class OtherKind(Kind):
    """A kind of nobody's."""


def bad(place, why):
    return BadBook, {"place": place, "why": why}


def fault(forms):
    return told(refusal(Book, forms))


def one(kind, must=False, default=None):
    """A record with one field."""
    return Record("rec", [Field(1, "one", kind, must, default)])


def record(name, *fields):
    return Record(name, list(fields))


def choice(name, *fields):
    return Choice(name, list(fields))


def fields_of(many, kind, letter="f", first=1, must=False):
    """So many fields of a kind, with rising numbers."""
    return [Field(first + at, letter + "abcdefghijkl"[at], kind, must) for at in range(many)]


def musts(many, kind, letter="f", first=1):
    return fields_of(many, kind, letter, first, True)


def heavy():
    """Forms that weigh 11 and 90."""
    return [Record("a", musts(10, Truth())), Record("b", musts(8, Nested("a")) + musts(1, Text(), "g", 50))]


class Good(unittest.TestCase):
    def test_what_it_holds(self):
        forms = [choice("a", Field(1, "x", Truth())), record("b"), record("c", Field(1, "x", Nested("a")))]
        book = Book(forms)
        self.assertEqual(len(book.forms), 3)
        for kept, form in zip(book.forms, forms):
            self.assertIs(kept, form)
            self.assertIs(book.form_of(form.name), form)
        self.assertIs(book.head(), forms[2])
        self.assertIs(Book(forms=forms).head(), forms[2])

    def test_form_of_what_is_not_there_and_of_anything(self):
        book = Book([record("a"), record("b")])
        for thing in anything() + ["c", "ab", "A", ["a"], ("a",), {"a": "a"}, b"a", Alike(), book.forms[0]]:
            self.assertIsNone(book.form_of(thing))

    def test_the_list_of_forms_is_its_own(self):
        forms = [record("a"), record("b")]
        book = Book(forms)
        self.assertIsNot(book.forms, forms)
        forms.pop()
        forms.append(5)
        self.assertEqual([form.name for form in book.forms], ["a", "b"])
        self.assertEqual(book.head().name, "b")

    def test_what_is_handed_in_is_as_it_was(self):
        forms = [record("a"), record("b")]
        copy = list(forms)
        Book(forms)
        self.assertEqual(forms, copy)
        forms.append(choice("c"))
        copy = list(forms)
        self.assertEqual(fault(forms), bad(2, "many"))
        self.assertEqual(forms, copy)

    def test_edges_of_what_can_be(self):
        last = Field(200, "z", Truth())
        for form in [
            record("a"), record("abcdefghijkl"), Record("a", fields_of(10, Truth())), Record("a", (last,)),
            Record("a", [], list(range(1, 11))), Record("a", [], tuple(range(191, 201))), Record("a", [last], [1, 199]),
            record("record", Field(1, "must", Truth()), Field(2, "gone", Truth())),
            one(Truth()), one(Count()), one(Whole()), one(Upto(1)), one(Upto(MOST_NUMBER)), one(Text(1)),
            one(Text(100)), one(List(Truth())), one(List(Count())), one(List(Whole())), one(List(Upto(1))),
            one(List(Text(1))), one(List(Upto(MOST_NUMBER))), one(List(Text(100))),
        ]:
            self.assertIs(Book([form]).head(), form)

    def test_one_and_eight_forms(self):
        names = "abcdefgh"
        for many in (1, 2, 7, 8):
            self.assertEqual(len(Book([record(name) for name in names[:many]]).forms), many)

    def test_names_and_numbers_stand_once_in_each_form_alone(self):
        forms = [record(name, Field(1, "x", Truth()), Field(2, name, Truth())) for name in "abc"]
        self.assertEqual(len(Book(forms).forms), 3)

    def test_defaults_that_can_be(self):
        for kind, defaults in [
            (Truth(), [True, False, None]),
            (Count(), [0, 1, MOST_NUMBER, None]),
            (Whole(), [0, -1, -2 ** 255, 2 ** 255 - 1, None]),
            (Upto(5), [0, 1, 5, None]),
            (Text(), ["", "a", "name", "abcdefghijkl", None]),
            (Text(3), ["", "abc", None]),
            (List(Truth()), [[], None]),
        ]:
            for default in defaults:
                self.assertEqual(len(Book([one(kind, False, default)]).forms), 1)

    def test_blank_defaults_that_are_told(self):
        blanks = [(Truth(), False), (Count(), 0), (Whole(), 0), (Upto(5), 0), (Text(), ""), (List(Count()), [])]
        for kind, blank in blanks:
            Book([one(kind, True, blank)])
            Book([choice("a", Field(1, "x", kind, False, blank)), record("b")])
        for kind, default in [(Nested("a"), None), (List(Nested("a")), []), (List(Nested("a")), None)]:
            Book([record("a"), one(kind, True, default)])
            Book([record("a"), one(kind, False, default)])
            Book([record("a"), choice("b", Field(1, "x", kind, False, default)), record("c")])


class Refused(unittest.TestCase):
    def need(self, why, forms):
        """Each form is refused with the word, at the first place and at later ones, and ahead of a good one."""
        for at, form in enumerate(forms):
            with self.subTest(why=why, at=at):
                self.assertEqual(fault([form]), bad(0, why))
                self.assertEqual(fault([form, record("behind")]), bad(0, why))
                self.assertEqual(fault([record("ahead"), form, record("behind")]), bad(1, why))
                ahead = [record("ahead" + letter) for letter in "abcdefg"]
                self.assertEqual(fault(ahead + [form]), bad(7, why))

    def test_forms(self):
        good = record("a")
        nine = [record(name) for name in "abcdefghi"]
        for thing in anything() + [(good,), {"a": good}, {0: good}, iter([good]), good, nine, nine + nine, [5] * 9]:
            if thing not in ([1], [[]]):
                with self.subTest(repr(type(thing))):
                    self.assertEqual(fault(thing), bad(0, "forms"))

    def test_form(self):
        self.need("form", anything() + [Form("a", []), Form("a", [Field(1, "x", Truth())]), Record, Choice, "a"])
        self.need("form", [Field(1, "x", Truth()), Truth(), Book([record("a")]), [record("a")], Form(None, None, 5)])

    def test_name(self):
        for kind in (Record, Choice):
            names = anything() + ["abcdefghijklm", "a1", Alike()]
            self.need("name", [kind(thing, [Field(1, "x", Truth())]) for thing in names])

    def test_a_name_of_a_form_ahead(self):
        same = record("a")
        self.assertEqual(fault([record("a"), record("a")]), bad(1, "name"))
        self.assertEqual(fault([same, same]), bad(1, "name"))
        self.assertEqual(fault([record("a"), record("b"), choice("a", Field(1, "x", Truth()))]), bad(2, "name"))
        self.assertEqual(fault([record("a"), record("b"), record("c"), record("b")]), bad(3, "name"))

    def test_many(self):
        x = Field(1, "x", Truth())
        no_rows = [thing for thing in anything() if not isinstance(thing, (list, tuple))] + [Alike()]
        given_up = [thing for thing in no_rows if thing is not None]
        for kind in (Record, Choice):
            self.need("many", [kind("a", fields_of(11, Truth())), kind("a", tuple(fields_of(12, Truth())))])
            self.need("many", [kind("a", [5] * 11), kind("a", (None,) * 11)])
            self.need("many", [kind("a", [x], rows) for rows in [list(range(11, 22)), (5,) * 11, [None] * 11]])
            self.need("many", [kind("a", thing) for thing in no_rows + [x, {1: x}, iter([x]), "x"]])
            self.need("many", [kind("a", [x], thing) for thing in given_up + [5, x, {5: 5}, range(5, 9)]])
        self.need("many", [Choice("a", []), Choice("a", ()), Choice("a", [], [1])])

    def test_field(self):
        x = Field(1, "x", Truth())
        no_fields = anything() + [Truth(), Field, record("b"), (1, "x", Truth()), Alike()]
        for kind in (Record, Choice):
            self.need("field", [kind("a", [thing]) for thing in no_fields])
            self.need("field", [kind("a", [x, thing]) for thing in no_fields])
            names = anything() + ["abcdefghijklm", "X", Alike()]
            self.need("field", [kind("a", [x, Field(2, thing, Truth())]) for thing in names])
            self.need("field", [kind("a", [x, x]), kind("a", [x, Field(2, "y", Truth()), Field(3, "x", Count())])])

    def test_number(self):
        x = Field(1, "x", Truth())
        wrong = anything() + [-5, 0, 201, 2.0, "5", Alike()]
        for kind in (Record, Choice):
            self.need("number", [kind("a", [Field(thing, "y", Truth())]) for thing in wrong])
            self.need("number", [kind("a", [x, Field(thing, "y", Truth())]) for thing in wrong + [1]])
            self.need("number", [kind("a", [x], [thing]) for thing in wrong])
            self.need("number", [kind("a", [x], [2, thing, 3]) for thing in wrong])
            self.need("number", [kind("a", [x], [1]), kind("a", [x], (5, 1)), kind("a", [x], [4, 5, 4])])

    def test_kind(self):
        wrong = anything() + [Kind(), OtherKind(), Truth, Kind, "truth", Field(1, "x", Truth()), record("b")]
        wrong = wrong + [Upto(thing) for thing in anything() if thing not in (201, 10 ** 5000)]
        wrong = wrong + [Text(thing) for thing in anything()]
        wrong = wrong + [Upto(0), Upto(-1), Upto(MOST_NUMBER + 1), Upto(10 ** 5000), Text(0), Text(-1), Text(101)]
        wrong = wrong + [Upto(True), Upto(1.0), Upto("5"), Text(True), Text(1.0), Text("5"), Nested(["behind"])]
        wrong = wrong + [Nested(thing) for thing in anything()]
        wrong = wrong + [Nested("rec"), Nested("behind"), Nested("nowhere"), Nested("Ahead"), Nested(record("ahead"))]
        wrong = wrong + [Alike(), Upto(Alike()), Text(Alike()), Nested(Alike())]
        wrong = wrong + [List(thing) for thing in wrong]
        wrong = wrong + [List(List(Truth())), List(List(List(Truth()))), List(List(5))]
        self.need("kind", [one(kind) for kind in wrong])
        self.need("kind", [Choice("a", [Field(1, "x", Truth()), Field(2, "y", kind)]) for kind in wrong])

    def test_a_form_that_is_not_ahead(self):
        for kind in (Nested("b"), List(Nested("b"))):
            user = record("a", Field(1, "x", kind))
            self.assertEqual(fault([user, record("b")]), bad(0, "kind"))
            self.assertEqual(fault([record("c"), user, record("b")]), bad(1, "kind"))
            self.assertIs(Book([record("b"), user]).head(), user)
            self.assertEqual(fault([record("a", Field(1, "x", Nested("a")))]), bad(0, "kind"))

    def test_default(self):
        names = [[0], "A", "a b", "a1", "abcdefghijklm", " ", "-", 0, False, 5, [], (), {}, b"a", Thing(), Alike()]
        for kind, wrong in [
            (Truth(), [0, 1, -1, 0.0, "", "no", "yes", [], (), {}, Thing(), Alike()]),
            (Count(), [-1, MOST_NUMBER + 1, 10 ** 5000, True, False, 0.0, 1.0, "", "0", [], (), {}, Thing()]),
            (Whole(), [2 ** 255, -2 ** 255 - 1, 10 ** 5000, True, False, 0.0, "", "0", [], {}, Thing()]),
            (Upto(5), [6, -1, True, False, 0.0, 10 ** 5000, "", "0", [], Thing()]),
            (Text(), names),
            (Text(3), names + ["abcd"]),
            (List(Truth()), [[True], [False], [[]], (), "", 0, False, {}, Thing()]),
            (List(Text()), [[""], ["a"], (), "", "a", {}]),
        ]:
            self.need("default", [one(kind, False, default) for default in wrong])
            self.need("default", [one(kind, True, default) for default in wrong])
            self.need("default", [Choice("a", [Field(1, "x", kind, False, default)]) for default in wrong])

    def test_defaults_of_forms_and_of_lists_of_them(self):
        for kind, wrong in [
            (Nested("a"), [{}, [], (), "", "a", 0, False, True, ("x", 1), Thing(), Alike()]),
            (List(Nested("a")), [[{}], [None], {}, (), "", 0, False, Thing(), Alike()]),
        ]:
            for default in wrong:
                for must in (True, False):
                    self.assertEqual(fault([record("a"), one(kind, must, default)]), bad(1, "default"))
                form = choice("b", Field(1, "x", kind, False, default))
                self.assertEqual(fault([record("a"), form, record("c")]), bad(1, "default"))

    def test_defaults_that_may_not_be_told(self):
        for kind, default in [(Truth(), True), (Count(), 1), (Whole(), -1), (Upto(5), 5), (Text(), "name")]:
            Book([one(kind, False, default)])
            self.need("default", [one(kind, True, default), Choice("a", [Field(1, "x", kind, False, default)])])

    def test_must(self):
        no_truths = [thing for thing in anything() if not isinstance(thing, bool)] + ["True", 1, 0, Alike()]
        self.need("default", [one(Truth(), thing) for thing in no_truths])
        self.need("default", [Choice("a", [Field(1, "x", Truth(), thing)]) for thing in no_truths + [True]])
        self.need("default", [Choice("a", [Field(1, "x", Truth()), Field(2, "y", List(Text()), True)])])

    def test_head(self):
        def last():
            return choice("last", Field(1, "x", Truth()))
        self.assertEqual(fault([last()]), bad(0, "head"))
        self.assertEqual(fault([record("a"), last()]), bad(1, "head"))
        self.assertEqual(fault([record(name) for name in "abcdefg"] + [last()]), bad(7, "head"))
        Book([last(), record("a")])

    def test_head_behind_all_these(self):
        for forms, asked in [
            ([record("A"), choice("b", Field(1, "x", Truth()))], bad(0, "name")),
            ([record("a"), choice("a", Field(1, "x", Truth()))], bad(1, "name")),
            ([choice("a", Field(1, "x", Truth(), True))], bad(0, "default")),
        ]:
            self.assertEqual(fault(forms), asked)
        heaviest = heavy() + [choice("d", Field(1, "x", Nested("b")), Field(2, "y", Nested("b")))]
        self.assertEqual(fault(heaviest), bad(2, "head"))


def faulty(words):
    """A record with just these faults; form b, which weighs 90, stands ahead of it."""
    name, fields, gone = "form", [Field(1, "x", Truth())], [9]
    if "name" in words:
        name = "Form"
    if "many" in words:
        gone = list(range(100, 111))
    if "field" in words:
        fields = fields + [Field(11, "", Truth())]
    if "number" in words:
        fields = fields + [Field(0, "number", Truth())]
    if "kind" in words:
        fields = fields + [Field(13, "kind", Text(0))]
    if "default" in words:
        fields = fields + [Field(14, "default", Count(), False, -1)]
    if "great" in words:
        fields = fields + musts(2, Nested("b"), "h", 20)
    return Record(name, fields, gone)


class SeveralFaults(unittest.TestCase):
    def test_the_first_word_of_one_form(self):
        for many in range(1, len(ORDER) + 1):
            for words in itertools.combinations(ORDER, many):
                with self.subTest(words):
                    self.assertEqual(fault(heavy() + [faulty(words)]), bad(2, words[0]))
                    self.assertEqual(fault(heavy() + [faulty(words), record("z")]), bad(2, words[0]))

    def test_the_order_does_not_hang_on_the_fields_order(self):
        last = [Field(5, "z", Truth(), 5), Field(4, "y", Kind()), Field(0, "x", Truth()), Field(3, "", Truth())]
        for words in [("default", 1), ("kind", 2), ("number", 3), ("field", 4)]:
            for fields in itertools.permutations(last[:words[1]]):
                self.assertEqual(fault([Record("a", list(fields))]), bad(0, words[0]))

    def test_the_first_place(self):
        for one_word in ORDER:
            for other_word in ORDER:
                forms = heavy() + [faulty([one_word]), faulty([other_word])]
                with self.subTest(one=one_word, other=other_word):
                    self.assertEqual(fault(forms), bad(2, one_word))
                    self.assertEqual(fault(heavy() + [record("y")] + forms[2:]), bad(3, one_word))
                    self.assertEqual(fault(forms + [5]), bad(2, one_word))
                    self.assertEqual(fault(heavy() + [5] + forms[2:]), bad(2, "form"))

    def test_too_many_forms_ahead_of_all_else(self):
        self.assertEqual(fault([faulty(["name"])] * 9), bad(0, "forms"))


class Weights(unittest.TestCase):
    def weights(self, *forms):
        book = Book(list(forms))
        found = [weight(book, form) for form in book.forms]
        self.assertTrue(all(type(number) is int for number in found))
        return found

    def test_of_plain_records(self):
        self.assertEqual(self.weights(record("a")), [1])
        self.assertEqual(self.weights(Record("a", fields_of(10, Truth()))), [1])
        self.assertEqual(self.weights(Record("a", musts(1, Count()))), [2])
        self.assertEqual(self.weights(Record("a", musts(10, Text()))), [11])
        self.assertEqual(self.weights(Record("a", musts(3, List(Truth())) + fields_of(4, Truth(), "g", 20))), [4])

    def test_of_plain_choices(self):
        self.assertEqual(self.weights(Choice("a", fields_of(1, Truth())), record("b")), [2, 1])
        self.assertEqual(self.weights(Choice("a", fields_of(10, Truth())), record("b")), [2, 1])

    def test_within_one_another(self):
        three = Record("three", musts(2, Whole()))
        self.assertEqual(self.weights(three, Record("b", musts(1, Nested("three")))), [3, 4])
        eight = Record("b", musts(2, Nested("three")) + musts(1, Truth(), "g", 5))
        self.assertEqual(self.weights(three, eight), [3, 8])
        self.assertEqual(self.weights(three, record("b", Field(1, "x", Nested("three")))), [3, 1])
        self.assertEqual(self.weights(three, Record("b", musts(2, List(Nested("three"))))), [3, 3])
        self.assertEqual(self.weights(three, choice("c", Field(1, "x", Nested("three"))), record("d")), [3, 4, 1])
        both = choice("c", Field(1, "x", Nested("three")), Field(2, "y", Count()))
        self.assertEqual(self.weights(three, both, Record("d", musts(2, Nested("c")))), [3, 2, 5])
        lists = choice("c", Field(1, "x", Nested("three")), Field(2, "y", List(Nested("three"))))
        self.assertEqual(self.weights(three, lists, record("d")), [3, 2, 1])
        two = choice("c", Field(1, "x", Nested("three")), Field(2, "y", Nested("one")))
        self.assertEqual(self.weights(three, record("one"), two, Record("d", musts(1, Nested("c")))), [3, 1, 2, 3])

    def test_choices_of_choices(self):
        forms = [Choice("a", fields_of(10, Truth()))]
        for ahead, name in zip("abcdef", "bcdefg"):
            forms.append(Choice(name, fields_of(10, Nested(ahead))))
        self.assertEqual(self.weights(*forms, Record("h", musts(2, Nested("g")))), [2, 3, 4, 5, 6, 7, 8, 17])

    def test_just_a_hundred(self):
        self.assertEqual(self.weights(*heavy()), [11, 90])
        hundred = Record("c", musts(1, Nested("b")) + musts(9, Truth(), "g", 20))
        self.assertEqual(self.weights(*heavy(), hundred), [11, 90, 100])
        self.assertEqual(self.weights(heavy()[0], Record("b", musts(9, Nested("a")))), [11, 100])
        ninety_nine = Record("c", musts(1, Nested("b")) + musts(8, Truth(), "g", 20))
        choices = [choice("d", Field(1, "x", Nested("c"))), choice("e", Field(1, "x", Nested("d")))]
        self.assertEqual(self.weights(*heavy(), ninety_nine, choices[0], record("z")), [11, 90, 99, 100, 1])
        self.assertEqual(fault(heavy() + [ninety_nine] + choices + [record("z")]), bad(4, "great"))

    def test_great(self):
        a = heavy()[0]
        nine = musts(9, Nested("a"))
        self.assertEqual(fault([a, Record("b", nine + [Field(50, "z", Truth(), True)])]), bad(1, "great"))
        self.assertEqual(fault([a, Record("b", musts(10, Nested("a")))]), bad(1, "great"))
        Book([a, Record("b", nine + [Field(50, "z", Nested("a"))])])
        hundred = Record("b", nine)
        over = choice("c", Field(1, "x", Nested("b")))
        self.assertEqual(fault([a, hundred, over, record("d")]), bad(2, "great"))
        self.assertEqual(fault([a, hundred, Record("c", musts(1, Nested("b")))]), bad(2, "great"))
        self.assertEqual(fault([record("y"), a, hundred, record("z"), over, record("d")]), bad(4, "great"))
        eased = choice("c", Field(1, "x", Nested("b")), Field(2, "y", Truth()))
        self.assertEqual(self.weights(a, hundred, eased, record("d")), [11, 100, 2, 1])
        self.assertEqual(self.weights(a, hundred, Record("c", musts(10, List(Nested("b"))))), [11, 100, 11])

    def test_asked_again(self):
        book = Book(heavy())
        lines = book_lines(book)
        self.assertEqual([weight(book, form) for form in book.forms] * 2, [11, 90, 11, 90])
        self.assertEqual(book_lines(book), lines)


if __name__ == "__main__":
    unittest.main()
