import random
import unittest

from chance import book_by_chance, changed_row, value_by_chance
from formkin.books import Book, book_lines
from formkin.errors import BadRow, BadWire
from formkin.forms import Field, Record
from formkin.frames import framed, unframed
from formkin.kinds import List, Truth
from formkin.reading import read
from formkin.values import blank_value, need_value
from formkin.writing import written
from refusals import NO_ROWS, refusal, told
from rows import good_rows, sample_row
from samples import LINES, good_value, of_fields, ruin, sample_book, shown
from wrong_rows import WRONG


def wire(place, why):
    return BadWire, {"place": place, "why": why}


class Case(unittest.TestCase):
    def need_value_or_refusal(self, book, row):
        """What is read is written to the very same row; tells the word of the refusal, "" where there is none."""
        try:
            value = read(book, row)
        except BadWire as error:
            self.assertIs(type(error), BadWire)
            self.assertIn(error.place, range(len(row) + 1))
            return error.why
        need_value(book, value)
        self.assertEqual(written(book, value), row)
        return ""


class Values(Case):
    def test_hand_made_rows(self):
        for book, value, row in good_rows():
            with self.subTest(lines=book_lines(book), row=row):
                self.assertEqual(shown(read(book, row)), shown(value))
                self.assertEqual(shown(read(book, tuple(row))), shown(value))

    def test_what_was_written_by_chance(self):
        source = random.Random(11)
        for step in range(150):
            book = book_by_chance(source) if step % 3 else sample_book()
            for again in range(4):
                value = value_by_chance(source, book, book.head())
                row = written(book, value)
                self.assertEqual(shown(read(book, row)), shown(value))

    def test_what_a_row_leaves_out(self):
        ahead = ["record one", "choice two", "1 a truth"]
        book = of_fields(
            "1 a truth", "2 b count = 5", "3 c whole = -1", "4 d upto 5 = 5", "5 e text = abc", "6 f list count",
            "7 g form one", "8 h form two", "9 i list form one", "10 j truth = yes", ahead=ahead)
        self.assertEqual(shown(read(book, [])), shown({
            "a": False, "b": 5, "c": -1, "d": 5, "e": "abc", "f": [], "g": None, "h": None, "i": [], "j": True,
        }))
        nested = of_fields("1 p form inner must", ahead=["record inner", "1 a text = x", "2 b list truth"])
        self.assertEqual(shown(read(nested, [5, 0])), shown({"p": {"a": "x", "b": []}}))

    def test_the_empty_name_only_where_there_are_rests(self):
        book = of_fields("1 p form point", "2 a count", ahead=["record point", "1 x whole", "gone 4"])
        for row, names, inner in [
            ([5, 0], ["a", "p"], ["x"]), ([5, 2, 8, 1], ["a", "p"], ["", "x"]), ([5, 0, 12, 0], ["", "a", "p"], ["x"]),
            ([5, 2, 17, 0, 160, 6, 0], ["", "a", "p"], ["", "x"]),
        ]:
            value = read(book, row)
            self.assertEqual((sorted(value), sorted(value["p"])), (names, inner))

    def test_fields_that_a_record_has_not_are_kept(self):
        book = of_fields("2 a count", "5 b form point", "gone 3 200", ahead=["record point", "2 x whole", "gone 1"])
        for row, value in [
            ([4, 0], {"a": 0, "b": None, "": [(1, 0, (0,))]}),
            ([5, 0], {"a": 0, "b": None, "": [(1, 1, ())]}),
            ([4, 255, 1, 8, 7, 12, 0, 17, 3, 128, 0, 255], {
                "a": 7, "b": None, "": [(1, 0, (255, 1)), (3, 0, (0,)), (4, 1, (128, 0, 255))],
            }),
            ([21, 6, 4, 1, 13, 2, 0, 0, 161, 6, 1, 9], {
                "a": 0, "b": {"x": 0, "": [(1, 0, (1,)), (3, 1, (0, 0))]}, "": [(200, 1, (9,))],
            }),
            ([160, 6] + [255] * 36 + [15], {"a": 0, "b": None, "": [(200, 0, (255,) * 36 + (15,))]}),
        ]:
            self.assertEqual(shown(read(book, row)), shown(value))
            self.assertEqual(written(book, read(book, row)), row)

    def test_a_row_of_another_book_is_handed_back(self):
        source = random.Random(12)
        known = 0
        for step in range(300):
            row = written(sample_book(), value_by_chance(source, sample_book(), sample_book().head()))
            numbers = sorted(source.sample(range(150, 200), 2))
            book = of_fields(*[f"{number} {name} count" for name, number in zip("ab", numbers)], "gone 1 2 32")
            known += self.need_value_or_refusal(book, row) == ""
        self.assertGreater(known, 50)

    def test_rows_that_were_kept(self):
        for book, value, row in good_rows():
            self.assertEqual(shown(read(book, unframed(framed(written(book, value))))), shown(value))

    def test_great_rows(self):
        ahead = ["record inner", "1 a list text"]
        book = of_fields("1 a list form inner", "2 b list form inner", ahead=ahead)
        value = {"a": [{"a": ["x" * 70] * 20}] * 10, "b": [{"a": ["y" * 70] * 20}] * 10}
        row = written(book, value)
        self.assertGreater(len(row), 28000)
        self.assertEqual(read(book, row), value)
        self.assertEqual(len(read(of_fields(), row)[""]), 2)


class Refused(Case):
    def test_each_word_with_its_place(self):
        for book, row, place, why, sure in WRONG:
            with self.subTest(lines=book_lines(book)[15:], row=row):
                self.assertEqual(told(refusal(read, book, row)), wire(place, why))
                self.assertEqual(told(refusal(read, book, tuple(row))), wire(place, why))

    def test_whatever_stands_behind_what_is_sure(self):
        for book, row, place, why, sure in WRONG:
            if sure is not None:
                for behind in ([], [0], [255] * 40, [4, 1], [9, 1, 97]):
                    with self.subTest(lines=book_lines(book)[15:], row=row):
                        self.assertEqual(told(refusal(read, book, row[:sure] + behind)), wire(place, why))

    def test_the_same_words_within_a_part(self):
        # A part of very many bytes has room for all lengths, as the whole has.
        for book, row, place, why, sure in WRONG:
            if sure is None:
                continue
            lines = [line.replace("record head", "record inner") for line in book_lines(book)]
            outer = of_fields("3 a form inner", ahead=lines)
            whole = [13] + [255] * 36 + [15] + row
            with self.subTest(lines=lines[15:], row=row):
                self.assertEqual(told(refusal(read, outer, whole)), wire(place + 38, why))

    def test_two_faults_at_once(self):
        # A kind, the key's shape, what stands behind the key, the place from the key on.
        faults = [
            ("truth", 0, [2], 1, "value"), ("upto 5", 0, [6], 1, "value"), ("count", 0, [128, 0], 2, "number"),
            ("count", 0, [0], 0, "blank"), ("count", 2, [0], 0, "shape"), ("count", 1, [0], 0, "shape"),
            ("text 3", 1, [4], 1, "value"), ("text 3", 1, [1, 37], 2, "value"), ("text 3", 1, [0], 0, "blank"),
            ("text 3", 0, [0], 0, "shape"), ("list truth", 1, [2, 1, 2], 3, "value"),
            ("list truth", 1, [1, 0], 0, "blank"),
            ("list truth", 1, [2, 0, 0], 3, "length"), ("list truth", 1, [1, 1], 3, "cut"),
            ("list truth", 1, [1, 21], 2, "value"), ("list text 3", 1, [3, 1, 2, 97], 3, "length"),
            ("form point", 1, [0], 2, "must"), ("form point", 1, [1, 0], 2, "key"), ("form point", 1, [1, 4], 3, "cut"),
            ("form point", 1, [4, 4, 0, 4, 0], 4, "order"), ("form pick", 1, [0], 2, "choice"),
            ("form pick", 1, [3, 8, 0, 7], 4, "choice"), ("form pick", 1, [2, 4, 0], 2, "choice"),
        ]
        ahead = ["record point", "1 x whole must", "choice pick", "2 a truth"]
        for first in faults:
            for second in faults:
                book = of_fields(f"1 a {first[0]}", f"2 b {second[0]}", "9 c count must", ahead=ahead)
                row = [4 + first[1]] + first[2] + [8 + second[1]] + second[2]
                with self.subTest(first=first, second=second):
                    self.assertEqual(told(refusal(read, book, row)), wire(first[3], first[4]))

    def test_each_shorter_row(self):
        for book, value, row in good_rows():
            for length in range(len(row)):
                with self.subTest(lines=book_lines(book), row=row[:length]):
                    try:
                        self.assertEqual(written(book, read(book, row[:length])), row[:length])
                    except BadWire as error:
                        self.assertIn(error.why, ("cut", "must"))
                        self.assertEqual(error.place, length)

    def test_each_shorter_row_of_one_field_is_cut(self):
        for book, value, row in good_rows():
            if len(value) == 1 and len(value.get("", [])) < 2:
                for length in range(1, len(row)):
                    self.assertEqual(told(refusal(read, book, row[:length])), wire(length, "cut"))

    def test_a_byte_changed_left_out_or_put_in(self):
        words = {}
        for book, value, row in good_rows():
            for place in range(min(len(row), 140)):
                rows = [row[:place] + row[place + 1:]]
                for byte in (0, 1, 2, 4, 5, 6, 37, 126, 127, 128, 255):
                    rows += [row[:place] + [byte] + row[place + 1:], row[:place] + [byte] + row[place:]]
                for changed in rows:
                    word = self.need_value_or_refusal(book, changed)
                    words[word] = words.get(word, 0) + 1
        expected = ["", "blank", "choice", "cut", "key", "length", "must", "number", "order", "shape", "value"]
        self.assertEqual(sorted(words), expected)

    def test_rows_by_chance(self):
        source = random.Random(13)
        words = {}
        for step in range(150):
            book = book_by_chance(source)
            row = written(book, value_by_chance(source, book, book.head()))
            for again in range(20):
                word = self.need_value_or_refusal(book, changed_row(source, row))
                words[word] = words.get(word, 0) + 1
        self.assertGreater(words[""], 100)
        self.assertGreater(words["cut"], 100)


class Throughout(Case):
    def test_what_is_no_row(self):
        for book in (of_fields(), of_fields("1 a count must"), sample_book()):
            for thing in NO_ROWS + [sample_row() + [256], sample_row() + [True], [0, -1], [255] * 40 + [1.0]]:
                error = refusal(read, book, thing)
                self.assertEqual(told(error), (BadRow, {}))

    def test_what_is_handed_in_is_as_it_was(self):
        book = sample_book()
        for row in (sample_row(), sample_row()[:50], [0, 1]):
            kept = list(row)
            try:
                read(book, row)
            except BadWire:
                pass
            self.assertEqual(shown(row), shown(kept))
        self.assertEqual(book_lines(book), LINES)

    def test_what_is_told_is_the_askers_own(self):
        book = sample_book()
        for row in (sample_row(), written(book, blank_value(book))):
            first = read(book, row)
            before = shown(first)
            row.append(0)
            self.assertEqual(shown(first), before)
            row.pop()
            second = read(book, row)
            ruin(first)
            self.assertEqual(shown(second), before)
            self.assertEqual(shown(read(book, row)), before)
        self.assertEqual(book_lines(book), LINES)

    def test_a_list_that_is_left_out_is_a_new_one(self):
        book = Book([Record("a", [Field(1, "x", List(Truth()), False, [])])])
        read(book, [])["x"].append(True)
        self.assertEqual(read(book, []), {"x": []})
        self.assertEqual(book.head().fields[0].default, [])

    def test_a_refusal_changes_nothing(self):
        book = sample_book()
        for row in (sample_row()[:-1], [0], [255] * 50):
            refusal(read, book, row)
            self.assertEqual(shown(read(book, sample_row())), shown(good_value()))


if __name__ == "__main__":
    unittest.main()
