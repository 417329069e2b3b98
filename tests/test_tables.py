import random
import unittest

from chance import book_by_chance
from formkin.bits import MOST_NUMBER
from formkin.books import book_lines, book_of
from formkin.errors import BadText
from formkin.tables import Tables, compiled, tables_of, tables_text
from refusals import NO_TEXTS, Alike, Thing, anything, refusal, told
from samples import LINES, of_fields, ruin, sample_book, shown

# A book of all kinds, its rows, and these as lines.
ALL = [
    "record point", "1 x whole must", "2 y count = 7", "gone 3 9",
    "choice mark", "3 spot form point", "5 word text 4", "9 bits list truth", "10 ready truth", "11 names list text",
    "12 level upto 9", "gone 1",
    "record none",
    "record head", "1 a truth", "2 b truth = yes", "3 c count", "4 d whole = -4", "5 e upto 300 = 300", "6 f text = ab",
    "7 g text 12", "31 h form mark", "100 i list form point must", "200 j list upto 5",
    "record more", "1 a text must", "2 b truth must", "3 c count must", "4 d upto 9 must", "5 e form none must",
    "6 f list text 7", "7 g list whole", "8 h list count must", f"9 i upto {MOST_NUMBER} = {MOST_NUMBER}",
    f"10 j whole = {-2 ** 255}",
]
ROWS = [
    ("form", "point", 0, 2), ("field", 1, "x", 2, 0, 1, 0), ("field", 2, "y", 1, 0, 0, 7),
    ("form", "mark", 1, 6), ("field", 3, "spot", 5, 0, 0, 0), ("field", 5, "word", 4, 4, 0, ""),
    ("field", 9, "bits", 10, 0, 0, 0), ("field", 10, "ready", 0, 0, 0, 0), ("field", 11, "names", 14, 100, 0, 0),
    ("field", 12, "level", 3, 9, 0, 0),
    ("form", "none", 0, 0),
    ("form", "head", 0, 10), ("field", 1, "a", 0, 0, 0, 0), ("field", 2, "b", 0, 0, 0, 1),
    ("field", 3, "c", 1, 0, 0, 0), ("field", 4, "d", 2, 0, 0, -4), ("field", 5, "e", 3, 300, 0, 300),
    ("field", 6, "f", 4, 100, 0, "ab"),
    ("field", 7, "g", 4, 12, 0, ""), ("field", 31, "h", 5, 1, 0, 0), ("field", 100, "i", 15, 0, 1, 0),
    ("field", 200, "j", 13, 5, 0, 0),
    ("form", "more", 0, 10), ("field", 1, "a", 4, 100, 1, ""), ("field", 2, "b", 0, 0, 1, 0),
    ("field", 3, "c", 1, 0, 1, 0), ("field", 4, "d", 3, 9, 1, 0), ("field", 5, "e", 5, 2, 1, 0),
    ("field", 6, "f", 14, 7, 0, 0), ("field", 7, "g", 12, 0, 0, 0), ("field", 8, "h", 11, 0, 1, 0),
    ("field", 9, "i", 3, MOST_NUMBER, 0, MOST_NUMBER), ("field", 10, "j", 2, 0, 0, -2 ** 255),
]
TABLE_LINES = [
    "form point 0 2", "field 1 x 2 0 1 0", "field 2 y 1 0 0 7",
    "form mark 1 6", "field 3 spot 5 0 0 0", "field 5 word 4 4 0 -", "field 9 bits 10 0 0 0", "field 10 ready 0 0 0 0",
    "field 11 names 14 100 0 0", "field 12 level 3 9 0 0",
    "form none 0 0",
    "form head 0 10", "field 1 a 0 0 0 0", "field 2 b 0 0 0 1", "field 3 c 1 0 0 0", "field 4 d 2 0 0 -4",
    "field 5 e 3 300 0 300", "field 6 f 4 100 0 ab", "field 7 g 4 12 0 -", "field 31 h 5 1 0 0", "field 100 i 15 0 1 0",
    "field 200 j 13 5 0 0",
    "form more 0 10", "field 1 a 4 100 1 -", "field 2 b 0 0 1 0", "field 3 c 1 0 1 0", "field 4 d 3 9 1 0",
    "field 5 e 5 2 1 0", "field 6 f 14 7 0 0", "field 7 g 12 0 0 0", "field 8 h 11 0 1 0",
    f"field 9 i 3 {MOST_NUMBER} 0 {MOST_NUMBER}", f"field 10 j 2 0 0 {-2 ** 255}",
]

# Lines that may never stand where a form's line is due, with two forms ahead of it, called p and q.
WRONG_FORMS = [
    "", " ", "form", "form a", "form a 0", "form a 0 0 0", " form a 0 0", "form a 0 0 ", "form  a 0 0", "form\ta 0 0",
    "form a\t0 0", "form a 0 0\n", "\nform a 0 0", "form a 0,0", "Form a 0 0", "record a 0 0", "field a 0 0", "a 0 0",
    "form A 0 0", "form a1 0 0", "form - 0 0", "form 5 0 0", "form abcdefghijklm 0 0", "form p 0 0", "form q 0 0",
    "form p 1 1", "form q 0 3", "form a 2 1", "form a 2 2", "form a 2 9", "form a -1 1", "form a 00 0",
    "form a 01 1", "form a - 0", "form a x 0",
    "form a 1 0", "form a 0 11", "form a 1 11", "form a 0 -1", "form a 0 00", "form a 0 01", "form a 0 -", "form a 0 x",
    "form a 1 -1", "form a 0 " + "9" * 90, "field 1 a 0 0 0 0", "field 1 form 0 0 0 0", "form a 10 0", "form a 0 1e1",
]
# Lines that may never stand where a record's field is due, behind a field 5 called x and two forms.
WRONG_FIELDS = [
    "", " ", "field", "field 6", "field 6 a 0 0 0", "field 6 a 0 0 0 0 0", " field 6 a 0 0 0 0", "field 6 a 0 0 0 0 ",
    "field 6  a 0 0 0 0", "field 6 a\t0 0 0 0", "field 6 a 0 0 0 0\n", "Field 6 a 0 0 0 0", "form 6 a 0 0 0 0",
    "6 a 0 0 0 0", "form a 0 0", "form a 1 1", "record a", "6 a truth",
    # The number, the name.
    "field 5 a 0 0 0 0", "field 4 a 0 0 0 0", "field 1 a 0 0 0 0", "field 0 a 0 0 0 0", "field -6 a 0 0 0 0",
    "field 201 a 0 0 0 0", "field 06 a 0 0 0 0", "field - a 0 0 0 0", "field x a 0 0 0 0", "field 6.0 a 0 0 0 0",
    "field " + "9" * 100 + " a 0 0 0 0",
    "field 6 x 0 0 0 0", "field 6 A 0 0 0 0", "field 6 - 0 0 0 0", "field 6 7 0 0 0 0",
    "field 6 abcdefghijklm 0 0 0 0", "field 6 a_b 0 0 0 0",
    # The code.
    "field 6 a 6 0 0 0", "field 6 a 7 0 0 0", "field 6 a 9 0 0 0", "field 6 a 16 0 0 0", "field 6 a 20 0 0 0",
    "field 6 a 23 5 0 0", "field 6 a -1 0 0 0", "field 6 a -10 0 0 0", "field 6 a 00 0 0 0", "field 6 a - 0 0 0",
    "field 6 a truth 0 0 0", "field 6 a 8 0 0 0", "field 6 a 110 0 0 0",
    # The bound.
    "field 6 a 0 1 0 0", "field 6 a 1 1 0 0", "field 6 a 2 1 0 0", "field 6 a 0 - 0 0", "field 6 a 1 00 0 0",
    "field 6 a 10 1 0 0", "field 6 a 11 1 0 0", "field 6 a 12 5 0 0", "field 6 a 1 x 0 0", "field 6 a 1 -1 0 0",
    "field 6 a 3 0 0 0", "field 6 a 3 -1 0 0", f"field 6 a 3 {MOST_NUMBER + 1} 0 0", "field 6 a 3 - 0 0",
    "field 6 a 3 01 0 0", "field 6 a 3 x 0 0", "field 6 a 13 0 0 0", f"field 6 a 13 {MOST_NUMBER + 1} 0 0",
    "field 6 a 4 0 0 -", "field 6 a 4 101 0 -", "field 6 a 4 - 0 -", "field 6 a 4 -5 0 -", "field 6 a 14 0 0 0",
    "field 6 a 14 101 0 0", "field 6 a 5 2 0 0", "field 6 a 5 3 0 0", "field 6 a 5 -1 0 0", "field 6 a 5 - 0 0",
    "field 6 a 5 p 0 0", "field 6 a 15 2 0 0", "field 6 a 15 -1 0 0", "field 6 a 5 00 0 0",
    # Must.
    "field 6 a 0 0 2 0", "field 6 a 0 0 -1 0", "field 6 a 0 0 - 0", "field 6 a 0 0 must 0", "field 6 a 0 0 01 0",
    "field 6 a 0 0 yes 0", "field 6 a 0 0 00 0", "field 6 a 4 9 - -",
    # The default, of the kind.
    "field 6 a 0 0 0 2", "field 6 a 0 0 0 -1", "field 6 a 0 0 0 -", "field 6 a 0 0 0 yes", "field 6 a 0 0 0 00",
    "field 6 a 1 0 0 -1", "field 6 a 1 0 0 -", "field 6 a 1 0 0 x", f"field 6 a 1 0 0 {MOST_NUMBER + 1}",
    "field 6 a 1 0 0 01", f"field 6 a 2 0 0 {2 ** 255}", f"field 6 a 2 0 0 {-2 ** 255 - 1}", "field 6 a 2 0 0 -",
    "field 6 a 2 0 0 -0", "field 6 a 2 0 0 x", "field 6 a 3 9 0 10", "field 6 a 3 9 0 -1", "field 6 a 3 9 0 -",
    "field 6 a 3 9 0 x", "field 6 a 4 2 0 abc", "field 6 a 4 100 0 abcdefghijklm", "field 6 a 4 9 0 0",
    "field 6 a 4 9 0 A", "field 6 a 4 9 0 a-b", "field 6 a 4 9 0 5", "field 6 a 4 9 0 --", "field 6 a 4 9 0 \"\"",
    # Where no default may be.
    "field 6 a 0 0 1 1", "field 6 a 1 0 1 1", "field 6 a 2 0 1 -1", "field 6 a 3 9 1 1", "field 6 a 4 9 1 a",
    "field 6 a 4 9 1 0", "field 6 a 1 0 1 -", "field 6 a 5 0 0 1", "field 6 a 5 0 0 -", "field 6 a 5 0 1 -",
    "field 6 a 10 0 0 1", "field 6 a 10 0 0 -", "field 6 a 11 0 1 -", "field 6 a 14 9 0 -", "field 6 a 14 9 1 -",
    "field 6 a 14 9 0 a", "field 6 a 15 0 0 -", "field 6 a 13 9 0 9", "field 6 a 11 0 0 00", "field 6 a 5 1 0 00",
]
# In a choice these, too.
WRONG_IN_CHOICES = [
    "field 6 a 0 0 1 0", "field 6 a 4 9 1 -", "field 6 a 5 0 1 0", "field 6 a 0 0 0 1", "field 6 a 1 0 0 5",
    "field 6 a 2 0 0 -1", "field 6 a 3 9 0 9", "field 6 a 4 9 0 a", "field 6 a 4 9 0 0", "field 6 a 14 9 0 -",
]
TWO = ["form p 0 0", "form q 1 1", "field 1 a 0 0 0 0"]


def bad(place):
    return BadText, {"place": place}


class Case(unittest.TestCase):
    def need_refused(self, lines, place):
        with self.subTest(lines=lines):
            self.assertEqual(told(refusal(tables_of, lines)), bad(place))

    def need_read(self, lines):
        with self.subTest(lines=lines):
            self.assertEqual(tables_text(tables_of(lines)), lines)


class Rows(Case):
    def test_a_book_of_all_kinds(self):
        tables = compiled(book_of(ALL))
        self.assertEqual(shown(tables.rows), shown(ROWS))
        self.assertEqual(shown(tables_text(tables)), shown(TABLE_LINES))
        again = tables_of(TABLE_LINES)
        self.assertEqual(shown(again.rows), shown(ROWS))
        self.assertEqual(tables_text(again), TABLE_LINES)
        self.assertIsInstance(again, Tables)

    def test_the_least_book(self):
        self.assertEqual(shown(compiled(of_fields()).rows), shown([("form", "head", 0, 0)]))
        self.assertEqual(shown(tables_of(["form head 0 0"]).rows), shown([("form", "head", 0, 0)]))

    def test_numbers_given_up_stand_in_no_table(self):
        book = of_fields("1 a truth", "gone 2 3 200")
        self.assertEqual(shown(compiled(book).rows), shown([("form", "head", 0, 1), ("field", 1, "a", 0, 0, 0, 0)]))

    def test_fields_by_rising_numbers(self):
        self.assertEqual([row[1] for row in compiled(of_fields("9 a truth", "2 b truth", "100 c count")).rows[1:]],
                         [2, 9, 100])

    def test_books_by_chance(self):
        source = random.Random(31)
        for step in range(200):
            tables = compiled(book_by_chance(source))
            lines = tables_text(tables)
            self.assertEqual(shown(tables_of(lines).rows), shown(tables.rows))
            self.need_read(lines)


class Lines(Case):
    def test_lines_that_may_stand_at_the_edges(self):
        for field in [
            "field 200 a 0 0 0 0", "field 6 abcdefghijkl 0 0 0 1", f"field 6 a 3 {MOST_NUMBER} 0 {MOST_NUMBER}",
            "field 6 a 3 1 0 1", f"field 6 a 1 0 0 {MOST_NUMBER}", f"field 6 a 2 0 0 {2 ** 255 - 1}",
            f"field 6 a 2 0 0 {-2 ** 255}", "field 6 a 4 100 0 abcdefghijkl", "field 6 a 4 1 0 a", "field 6 a 4 1 0 -",
            "field 6 a 5 0 0 0", "field 6 a 5 1 1 0", "field 6 a 15 1 0 0", "field 6 a 15 0 1 0", "field 6 a 14 1 0 0",
            "field 6 a 14 100 1 0", "field 6 a 13 255 0 0", "field 6 a 10 0 1 0", "field 6 a 4 9 1 -",
            "field 6 form 0 0 0 0", "field 6 field 4 9 0 form",
        ]:
            self.need_read(TWO + ["form r 0 2", "field 5 x 0 0 0 0", field])
            self.need_read(TWO + ["form r 0 1", field])
        for field in ["field 6 a 4 9 0 -", "field 6 a 14 9 0 0", "field 6 a 5 0 0 0", "field 6 a 3 9 0 0"]:
            self.need_read(TWO + ["form r 1 2", "field 5 x 0 0 0 0", field, "form s 0 0"])
        self.need_read(["form form 0 0", "form field 0 0"])
        self.need_read(["form a 0 1", "field 1 a 0 0 0 0", "form b 0 1", "field 1 a 0 0 0 0"])
        fields = [f"field {number} {'a' * (number - 190)} 4 1 0 -" for number in range(191, 201)]
        self.need_read(["form a 1 10"] + fields + ["form b 0 10"] + fields)

    def test_lines_that_are_no_form_where_one_is_due(self):
        for line in WRONG_FORMS:
            self.need_refused(TWO + [line], 3)
            self.need_refused(TWO + [line, "form z 0 0"], 3)
            self.need_refused(TWO + ["form r 0 1", "field 1 a 0 0 0 0", line, "form"], 5)
            if "p" not in line and "q" not in line:
                self.need_refused([line], 0)
                self.need_refused([line, line], 0)

    def test_lines_that_are_no_field_where_one_is_due(self):
        for line in WRONG_FIELDS:
            ahead = TWO + ["form r 0 2", "field 5 x 0 0 0 0"]
            self.need_refused(ahead + [line], 5)
            self.need_refused(ahead + [line, "form s 0 0"], 5)
            self.need_refused(TWO + ["form r 1 2", "field 5 x 0 0 0 0", line, "form s 0 0"], 5)
            self.need_refused(TWO + ["form r 0 3", "field 4 y 4 3 0 a", "field 5 x 0 0 0 0", line], 6)
            self.need_refused(ahead + [line, "form"], 5)

    def test_lines_that_may_not_stand_in_a_choice(self):
        for line in WRONG_IN_CHOICES:
            self.need_refused(TWO + ["form r 1 2", "field 5 x 0 0 0 0", line, "form s 0 0"], 5)
            self.need_refused(TWO + ["form r 1 1", line, "form s 0 0"], 4)

    def test_the_first_of_several(self):
        for first in WRONG_FIELDS[::5]:
            for second in WRONG_FIELDS[::7]:
                self.need_refused(TWO + ["form r 0 3", "field 5 x 0 0 0 0", first, second], 5)
                self.need_refused(TWO + ["form r 0 3", "field 4 y 0 0 0 0", "field 5 x 0 0 0 0", first, second], 6)

    def test_the_number_ahead_is_one_of_the_same_form(self):
        self.need_read(["form a 0 1", "field 9 x 0 0 0 0", "form b 0 1", "field 3 x 0 0 0 0"])
        self.need_refused(["form a 0 2", "field 9 x 0 0 0 0", "field 9 y 0 0 0 0"], 2)
        self.need_refused(["form a 0 1", "field 0 x 0 0 0 0"], 1)

    def test_a_forms_place_is_one_ahead(self):
        self.need_refused(["form a 0 1", "field 1 x 5 0 0 0"], 1)
        self.need_refused(["form a 0 1", "field 1 x 15 0 0 0"], 1)
        self.need_read(["form a 0 0", "form b 0 1", "field 1 x 5 0 0 0"])
        self.need_refused(["form a 0 0", "form b 0 1", "field 1 x 5 1 0 0"], 2)
        self.need_read(["form a 0 0", "form b 0 0", "form c 0 2", "field 1 x 5 1 0 0", "field 2 y 15 0 1 0"])

    def test_eight_forms_at_most(self):
        lines = [f"form {name} 0 0" for name in "abcdefgh"]
        self.need_read(lines)
        self.need_refused(lines + ["form i 0 0"], 8)
        self.need_refused(lines + ["form i 0 0", ""], 8)

    def test_what_lacks_at_the_end(self):
        for lines in [
            [], ["form a 0 1"], ["form a 1 1"], ["form a 0 3", "field 1 x 0 0 0 0", "field 2 y 0 0 0 0"],
            ["form a 1 1", "field 1 x 0 0 0 0"], TWO, ["form a 0 0", "form b 1 2", "field 1 x 0 0 0 0"],
            TWO + ["form r 1 2", "field 1 x 0 0 0 0", "field 2 y 0 0 0 0"], ["form a 0 10"],
            ["form a 0 0", "form b 0 1"],
        ]:
            self.need_refused(lines, len(lines))

    def test_each_shorter_list_of_lines(self):
        whole = [3, 11, 22, len(TABLE_LINES)]
        for many in range(len(TABLE_LINES)):
            if many in whole:
                self.need_read(TABLE_LINES[:many])
            else:
                self.need_refused(TABLE_LINES[:many], many)

    def test_a_line_left_out_or_said_twice(self):
        for place in range(len(TABLE_LINES)):
            error = refusal(tables_of, TABLE_LINES[:place + 1] + TABLE_LINES[place:])
            self.assertEqual(told(error), bad(place + 1))
            left = TABLE_LINES[:place] + TABLE_LINES[place + 1:]
            if TABLE_LINES[place].startswith("field"):
                self.assertIs(type(refusal(tables_of, left)), BadText)

    def test_forms_that_weigh_more_than_a_hundred(self):
        lines = ["form a 0 10"] + [f"field {number} {name} 1 0 1 0" for number, name in enumerate("abcdefghij", 1)]
        for name in "bcdefgh":
            lines += [f"form {name} 0 10"]
            lines += [f"field {number} {one} 5 {'abcdefgh'.index(name) - 1} 1 0"
                      for number, one in enumerate("abcdefghij", 1)]
        self.need_read(lines)

    def test_what_is_no_list(self):
        for thing in [thing for thing in anything() if not isinstance(thing, list)] + [
            tuple(TABLE_LINES), "form head 0 0", {"form head 0 0": 1}, Alike(), iter(["form head 0 0"]),
        ]:
            self.assertEqual(told(refusal(tables_of, thing)), bad(0))

    def test_lines_that_are_no_texts(self):
        for thing in NO_TEXTS + [Thing(), Alike(), ("form", "head", 0, 0), ["form", "a", 0, 0], b"form a 0 0"]:
            self.need_refused([thing], 0)
            self.need_refused(["form a 0 0", thing], 1)
            self.need_refused(["form a 0 2", "field 1 x 0 0 0 0", thing, thing], 2)


class Throughout(Case):
    def test_rows_are_the_tables_own(self):
        rows = [("form", "head", 0, 1), ("field", 1, "a", 0, 0, 0, 0)]
        tables = Tables(rows)
        self.assertEqual(shown(tables.rows), shown(rows))
        ruin(rows)
        self.assertEqual(tables_text(tables), ["form head 0 1", "field 1 a 0 0 0 0"])

    def test_what_is_told_is_the_askers_own(self):
        book = sample_book()
        first = compiled(book)
        before = shown(first.rows)
        ruin(tables_text(first))
        ruin(first.rows)
        self.assertEqual(shown(compiled(book).rows), before)
        self.assertEqual(book_lines(book), LINES)
        lines = list(TABLE_LINES)
        tables = tables_of(lines)
        self.assertEqual(lines, TABLE_LINES)
        ruin(lines)
        self.assertEqual(tables_text(tables), TABLE_LINES)
        ruin(tables.rows)
        self.assertEqual(tables_text(tables_of(TABLE_LINES)), TABLE_LINES)

    def test_what_is_refused_changes_nothing(self):
        lines = TABLE_LINES + ["form"]
        kept = list(lines)
        self.need_refused(lines, len(TABLE_LINES))
        self.assertEqual(lines, kept)


if __name__ == "__main__":
    unittest.main()
