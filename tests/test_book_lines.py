import unittest

from formkin.bits import MOST_NUMBER
from formkin.books import Book, book_lines, book_of
from formkin.errors import BadBook, BadText
from formkin.forms import Choice, Field, Record
from formkin.kinds import Count, List, Nested, Text, Truth, Upto, Whole
from refusals import NO_TEXTS, Thing, anything, refusal, told

LINES = [
    "record address",
    "1 street text 40",
    "2 number upto 9999 must",
    "choice way",
    "1 mail form address",
    "3 phone text 20",
    "9 none truth",
    "gone 2 4 200",
    "record person",
    "1 name text must",
    "2 age count",
    "3 balance whole = -12",
    "4 member truth = yes",
    "5 level upto 7 = 3",
    "6 tag text 5 = plain",
    "7 flags list truth",
    "8 ways list form way must",
    "9 home form address",
    "200 best form way must",
    "gone 10",
]


def made_by_hand():
    address = [Field(2, "number", Upto(9999), True), Field(1, "street", Text(40))]
    way = [Field(9, "none", Truth()), Field(1, "mail", Nested("address")), Field(3, "phone", Text(20))]
    person = [
        Field(200, "best", Nested("way"), True), Field(9, "home", Nested("address")),
        Field(8, "ways", List(Nested("way")), True), Field(7, "flags", List(Truth())),
        Field(6, "tag", Text(5), False, "plain"), Field(5, "level", Upto(7), False, 3),
        Field(4, "member", Truth(), False, True), Field(3, "balance", Whole(), False, -12),
        Field(2, "age", Count(), False, 0), Field(1, "name", Text(100), True, ""),
    ]
    return Book([Record("address", address), Choice("way", tuple(way), (200, 4, 2)), Record("person", person, [10])])


def of_kind(words, tail=""):
    """The lines of a book whose head has one field, with forms a and b ahead of it."""
    return ["record a", "choice b", "1 x truth", "record c", "5 field " + words + tail]


def shown(kind):
    """A kind and all that it is made of, to be compared at once."""
    return type(kind), {name: shown(part) if name == "item" else part for name, part in vars(kind).items()}


def shown_book(book):
    rows = []
    for form in book.forms:
        rows.append((type(form), form.name, form.gone))
        for field in form.fields:
            default = (type(field.default), field.default)
            rows.append((field.number, field.name, shown(field.kind), field.must, default))
    return rows


def text_fault(lines):
    return told(refusal(book_of, lines))


def bad_text(place):
    return BadText, {"place": place}


def bad_book(place, why):
    return BadBook, {"place": place, "why": why}


class Written(unittest.TestCase):
    def test_a_book_made_by_hand(self):
        self.assertEqual(book_lines(made_by_hand()), LINES)

    def test_the_least_book(self):
        self.assertEqual(book_lines(Book([Record("a", [])])), ["record a"])
        self.assertEqual(book_lines(Book([Record("a", [], (3,))])), ["record a", "gone 3"])

    def test_kinds_and_defaults(self):
        for kind, default, line in [
            (Truth(), None, "1 x truth"), (Truth(), False, "1 x truth"), (Truth(), True, "1 x truth = yes"),
            (Count(), 0, "1 x count"), (Count(), MOST_NUMBER, f"1 x count = {MOST_NUMBER}"),
            (Whole(), 0, "1 x whole"), (Whole(), -2 ** 255, f"1 x whole = {-2 ** 255}"), (Whole(), 7, "1 x whole = 7"),
            (Upto(1), 1, "1 x upto 1 = 1"), (Upto(MOST_NUMBER), None, f"1 x upto {MOST_NUMBER}"),
            (Text(), "", "1 x text"), (Text(100), "must", "1 x text = must"), (Text(99), "yes", "1 x text 99 = yes"),
            (Text(1), "", "1 x text 1"), (List(Truth()), [], "1 x list truth"), (List(Count()), None, "1 x list count"),
            (List(Whole()), None, "1 x list whole"), (List(Upto(3)), None, "1 x list upto 3"),
            (List(Text()), None, "1 x list text"), (List(Text(3)), None, "1 x list text 3"),
            (Nested("b"), None, "1 x form b"), (List(Nested("b")), None, "1 x list form b"),
        ]:
            with self.subTest(line):
                book = Book([Record("b", []), Record("a", [Field(1, "x", kind, False, default)])])
                self.assertEqual(book_lines(book), ["record b", "record a", line])
                self.assertEqual(shown_book(book_of(book_lines(book))), shown_book(book))
                if "=" not in line:
                    book = Book([Record("b", []), Record("a", [Field(1, "x", kind, True, default)])])
                    self.assertEqual(book_lines(book), ["record b", "record a", line + " must"])
                    self.assertEqual(shown_book(book_of(book_lines(book))), shown_book(book))

    def test_lines_are_the_askers_own(self):
        book = made_by_hand()
        lines = book_lines(book)
        self.assertIs(type(lines), list)
        lines.clear()
        book_lines(book).append("record more")
        self.assertEqual(book_lines(book), LINES)


class Read(unittest.TestCase):
    def test_written_and_read_again(self):
        book = book_of(LINES)
        self.assertEqual(shown_book(book), shown_book(made_by_hand()))
        self.assertEqual(book_lines(book), LINES)

    def test_fields_and_gone_lines_in_any_order(self):
        lines = ["record a", "gone 9 3", "5 x truth", "gone 200", "1 y count = 4", "gone 7 8 6", "2 z text", "gone 10"]
        asked = ["record a", "1 y count = 4", "2 z text", "5 x truth", "gone 3 6 7 8 9 10 200"]
        self.assertEqual(book_lines(book_of(lines)), asked)
        self.assertEqual(book_lines(book_of(lines[:1] + lines[:0:-1])), asked)
        lines = ["choice a", "gone 7", "3 x truth", "gone 1", "2 y truth", "record b"]
        self.assertEqual(book_lines(book_of(lines)), ["choice a", "2 y truth", "3 x truth", "gone 1 7", "record b"])

    def test_blank_defaults_that_are_told_and_text_100(self):
        for written, plain in [
            ("truth = no", "truth"), ("count = 0", "count"), ("whole = 0", "whole"), ("upto 5 = 0", "upto 5"),
            ("text 100", "text"), ("text 100 = ab", "text = ab"), ("text 100 must", "text must"),
            ("list text 100", "list text"), ("list text 100 must", "list text must"),
        ]:
            with self.subTest(written):
                self.assertEqual(book_lines(book_of(of_kind(written))), of_kind(plain))
                self.assertEqual(shown_book(book_of(of_kind(written))), shown_book(book_of(of_kind(plain))))

    def test_words_of_lines_as_names(self):
        for name in ["record", "choice", "gone", "must", "text", "list", "form", "yes", "no", "count"]:
            lines = ["record " + name, "record z", "1 " + name + " text = " + name, "2 x form " + name]
            lines = lines + ["3 y form " + name + " must"]
            book = book_of(lines)
            self.assertEqual(book_lines(book), lines)
            self.assertEqual((book.head().fields[0].default, book.head().fields[1].must), (name, False))

    def test_lines_are_as_they_were(self):
        lines = list(LINES)
        book = book_of(lines)
        self.assertEqual(lines, LINES)
        lines.clear()
        self.assertEqual(book_lines(book), LINES)
        self.assertIsNot(book_of(LINES), book_of(LINES))

    def test_what_is_refused_changes_nothing(self):
        lines = LINES + ["gone"]
        self.assertEqual(text_fault(lines), bad_text(len(LINES)))
        self.assertEqual(lines, LINES + ["gone"])
        self.assertEqual(book_lines(book_of(LINES)), LINES)


# Each a line that writes nothing, behind lines of a record or of a choice.
WRONG = [
    # no such words
    "", " ", "  ", "a", "records a", "Record a", "record", "choice", "record a b", "choice a b", "record  a",
    " record a",
    "record a ", "record\ta", "record a\n", "\nrecord a", "gone", "gone ", "gone  5", "gone 5 ", "gone a", "gone 5 a",
    "gone 05", "gone 5 6 +7", "gone -0", "gone 5,6", "Gone 5", "gone\t5", "gone 5\n", "gone " + "1" * 81, "goner 5",
    "7", "7 x", "7 x tru", "7 x Truth", "7 x truth truth", "7 x truth 5", "7 x count 5", "7 x whole 5", "x truth",
    "7 truth", "7 x  truth", "7  x truth", " 7 x truth", "7 x truth ", "7 x truth\n", "7\tx truth", "7 x\ttruth",
    "07 x truth", "+7 x truth", "7. x truth", "seven x truth", "-0 x truth", "1" * 81 + " x truth", "7 x is truth",
    "7 x upto", "7 x upto must", "7 x upto a", "7 x upto 05", "7 x upto 5 5", "7 x upto " + "1" * 81, "7 x upto =",
    "7 x text a", "7 x text 05", "7 x text 5 5", "7 x text must 5", "7 x text5", "7 x form", "7 x form a b", "7 x bits",
    "7 x truth Must", "7 x truth must must", "7 x truth must = yes", "7 x truth = yes must", "7 x truth =",
    "7 x truth yes",
    "7 x truth = yes no", "7 x truth == yes", "7 x truth =yes", "7 x truth= yes", "7 x truth = = yes", "7 x must",
    "7 x count = 5 6", "7 x text = a b", "7 x text =", "7 x text = ", "7 x list", "7 x list must", "7 x list 5",
    "7 x list tru", "7 x list upto", "7 x list form", "7 x list truth truth", "7 list list truth list",
    # a wrong name
    "record A", "record a1", "record abcdefghijklm", "record -", "choice A", "choice 5", "choice abcdefghijklm",
    "7 X truth", "7 x1 truth", "7 abcdefghijklm truth", "7 5 truth", "7 = truth", "7 x form A", "7 x form 5",
    "7 x form abcdefghijklm", "7 x list form A", "7 x form =", "7 x form a=",
    # a list of lists
    "7 x list list truth", "7 x list list", "7 x list list list text 5", "7 x" + " list" * 3000 + " truth",
    "7 x list list truth must", "7 x list list = 5",
    # a default of lists and forms
    "7 x list truth = yes", "7 x list count = 0", "7 x list text = a", "7 x list upto 5 = 5", "7 x form a = a",
    "7 x form a = no", "7 x list form a = a", "7 x form a = 0", "7 x list truth = no",
    # a truth's, a text's and a number's that is none
    "7 x truth = 1", "7 x truth = 0", "7 x truth = True", "7 x truth = Yes", "7 x truth = y", "7 x truth = nothing",
    "7 x text = A", "7 x text = 5", "7 x text = abcdefghijklm", "7 x text 5 = a1", "7 x text = \"\"", "7 x text = a\n",
    "7 x count = a", "7 x count = yes", "7 x count = 05", "7 x count = +5", "7 x count = -", "7 x count = -0",
    "7 x count = " + "1" * 81, "7 x whole = a", "7 x whole = --5", "7 x whole = 1.0", "7 x upto 5 = a",
    "7 x upto 5 = no",
]
IN_A_CHOICE = [
    "7 x truth must", "7 x truth = yes", "7 x truth = no", "7 x count = 0", "7 x count = 5", "7 x count must",
    "7 x text = a", "7 x text 5 must", "7 x list truth must", "7 x form a must", "7 x upto 5 = 2", "7 x whole = -1",
]
# Lines that may stand behind a record's line, though the book may be refused for them.
NO_FORMS_LINES = ["1 x truth", "5 x list text 5 must", "7 x count = 5", "gone 5", "gone 1 2 3", "0 x truth", "gone 0"]


class NothingWritten(unittest.TestCase):
    def test_each_such_line(self):
        for line in WRONG:
            with self.subTest(line[:60]):
                self.assertEqual(text_fault([line]), bad_text(0))
                self.assertEqual(text_fault(["record a", line]), bad_text(1))
                self.assertEqual(text_fault(["record a", line, "record b"]), bad_text(1))
                self.assertEqual(text_fault(["record a", "choice b", "1 y truth", line]), bad_text(3))
                self.assertEqual(text_fault(LINES + [line]), bad_text(len(LINES)))

    def test_must_and_defaults_in_a_choice(self):
        for line in IN_A_CHOICE:
            with self.subTest(line):
                self.assertEqual(text_fault(["record a", "choice b", line, "record c"]), bad_text(2))
                self.assertEqual(text_fault(["record a", "choice b", "1 y truth", "gone 4", line]), bad_text(4))
                self.assertEqual(len(book_of(["record a", "choice b", "1 y truth", "record c", line]).forms), 3)

    def test_fields_ahead_of_any_form(self):
        for line in NO_FORMS_LINES:
            with self.subTest(line):
                self.assertEqual(text_fault([line]), bad_text(0))
                self.assertEqual(text_fault([line, "record a"]), bad_text(0))

    def test_what_is_no_text(self):
        for thing in NO_TEXTS + [["record a"], ("record", "a"), b"record a", Thing(), 10 ** 5000]:
            self.assertEqual(text_fault([thing]), bad_text(0))
            self.assertEqual(text_fault(["record a", thing]), bad_text(1))
            self.assertEqual(text_fault(LINES + [thing, "gone"]), bad_text(len(LINES)))

    def test_what_is_no_list_of_lines(self):
        wrong = [thing for thing in anything() if not isinstance(thing, list)]
        wrong = wrong + [tuple(LINES), "record a", {"record a": 1}, {"record a"}, iter(LINES), b"record a", Thing()]
        for thing in wrong:
            self.assertEqual(text_fault(thing), bad_text(0))

    def test_the_first_such_line(self):
        lines = list(LINES)
        for place in range(len(LINES) - 1, -1, -1):
            lines[place] = "nothing"
            self.assertEqual(text_fault(lines), bad_text(place))

    def test_behind_lines_that_write_a_wrong_book(self):
        for wrong in [["record a", "record a"], ["record a", "0 x truth"], ["choice a"], ["record a"] * 9]:
            self.assertEqual(text_fault(wrong)[0], BadBook)
            for line in ["nothing", "", None, "7 x list list truth", "gone"]:
                self.assertEqual(text_fault(wrong + [line]), bad_text(len(wrong)))


class WrongBooks(unittest.TestCase):
    def test_lines_that_write_one(self):
        eleven = ["%d %s truth" % (at + 1, "abcdefghijk"[at]) for at in range(11)]
        most = str(MOST_NUMBER + 1)
        for lines, place, why in [
            ([], 0, "forms"), (["record " + letter for letter in "abcdefghi"], 0, "forms"),
            (["record a", "record b", "record a"], 2, "name"),
            (["record a"] + eleven, 0, "many"), (["record a", "gone 1 2 3 4 5 6", "gone 7 8 9 10 11"], 0, "many"),
            (["record a", "choice b"], 1, "many"), (["choice a", "record b"], 0, "many"),
            (["record a", "1 x truth", "2 x count"], 0, "field"),
            (["record a", "0 x truth"], 0, "number"), (["record a", "201 x truth"], 0, "number"),
            (["record a", "-1 x truth"], 0, "number"), (["record a", "9" * 80 + " x truth"], 0, "number"),
            (["record a", "1 x truth", "1 y truth"], 0, "number"), (["record a", "1 x truth", "gone 1"], 0, "number"),
            (["record a", "gone 5", "gone 5"], 0, "number"), (["record a", "gone 5 5"], 0, "number"),
            (["record a", "gone 0"], 0, "number"), (["record a", "gone -5"], 0, "number"),
            (["record a", "gone 201"], 0, "number"),
            (["record a", "1 x upto 0"], 0, "kind"), (["record a", "1 x upto -1"], 0, "kind"),
            (["record a", "1 x upto " + most], 0, "kind"), (["record a", "1 x text 0"], 0, "kind"),
            (["record a", "1 x text 101"], 0, "kind"), (["record a", "1 x text -1 = a"], 0, "kind"),
            (["record a", "1 x list text 101"], 0, "kind"), (["record a", "1 x list upto 0"], 0, "kind"),
            (["record a", "1 x form a"], 0, "kind"), (["record a", "1 x form b", "record b"], 0, "kind"),
            (["record a", "record b", "1 x list form c must"], 1, "kind"),
            (["record a", "1 x count = -1"], 0, "default"), (["record a", "1 x count = " + most], 0, "default"),
            (["record a", "1 x whole = " + most], 0, "default"), (["record a", "1 x upto 5 = 6"], 0, "default"),
            (["record a", "1 x upto 5 = -6"], 0, "default"), (["record a", "1 x text 3 = abcd"], 0, "default"),
            (["record a", "choice b", "1 x truth"], 1, "head"), (["choice b", "1 x truth"], 0, "head"),
        ]:
            with self.subTest(lines):
                self.assertEqual(text_fault(lines), bad_book(place, why))

    def test_too_great(self):
        lines = ["record a"] + ["%d %s truth must" % (at + 1, "abcdefghij"[at]) for at in range(10)]
        lines = lines + ["record b"] + ["%d %s form a must" % (at + 1, "abcdefghi"[at]) for at in range(9)]
        self.assertEqual(book_lines(book_of(lines)), lines)
        self.assertEqual(text_fault(lines + ["10 j truth must"]), bad_book(1, "great"))
        self.assertEqual(text_fault(lines + ["record c", "1 x form b must"]), bad_book(2, "great"))


if __name__ == "__main__":
    unittest.main()
