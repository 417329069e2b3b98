import unittest

from formkin.books import book_lines
from formkin.errors import BadValue
from formkin.values import blank_value, need_value
from formkin.writing import written
from refusals import anything, refusal, told
from rows import (
    choice_rows, empty_list_rows, key_rows, left_out_rows, list_rows, long_rows, plain_rows, record_rows, rest_rows,
    sample_row,
)
from samples import LINES, exchanged, good_value, of_fields, ruin, sample_book, shown, turned


class Rows(unittest.TestCase):
    def need(self, rows):
        for book, value, row in rows:
            with self.subTest(lines=book_lines(book), row=row):
                self.assertEqual(shown(written(book, value)), shown(row))
                self.assertEqual(shown(written(book, turned(value))), shown(row))

    def test_each_plain_kind_behind_its_key(self):
        self.need(plain_rows())

    def test_keys(self):
        self.need(key_rows())

    def test_what_is_left_out_what_must_be_there_and_fields_by_rising_numbers(self):
        self.need(left_out_rows())
        for book, value, row in left_out_rows():
            if row == []:
                self.assertEqual(written(book, blank_value(book)), [])

    def test_lists_packed_and_others(self):
        self.need(list_rows())

    def test_the_empty_list_where_it_must_be(self):
        self.need(empty_list_rows())

    def test_records_within_records(self):
        self.need(record_rows())

    def test_choices_have_their_field_whatever_that_has(self):
        self.need(choice_rows())

    def test_lengths_of_128_and_more(self):
        self.need(long_rows())

    def test_rests_ahead_of_between_and_behind_the_fields_and_in_nested_ones(self):
        self.need(rest_rows())

    def test_the_sample(self):
        self.need([(sample_book(), good_value(), sample_row())])


class Throughout(unittest.TestCase):
    def test_what_is_handed_in_is_as_it_was(self):
        book = sample_book()
        value = good_value()
        first = written(book, value)
        kept = list(first)
        self.assertEqual(repr(value), repr(good_value()))
        ruin(first)
        self.assertEqual(written(book, value), kept)
        self.assertEqual(repr(value), repr(good_value()))
        ruin(value)
        self.assertEqual(written(book, good_value()), kept)
        self.assertEqual(book_lines(book), LINES)

    def test_a_rests_row_alone_is_not_handed_out(self):
        book = of_fields()
        value = {"": [(1, 0, (5,))]}
        self.assertEqual(type(written(book, value)), list)
        written(book, value).clear()
        self.assertEqual(written(book, value), [4, 5])

    def test_bad_values(self):
        book = sample_book()
        for thing in anything():
            self.assertEqual(told(refusal(written, book, thing)), (BadValue, {"path": []}))
        for path, thing in [
            (["ready"], 1), (["size"], True), (["label"], "%"), (["shelf", "marks", 1, "spot", "x"], None),
            (["shelf", "marks", 1, "spot"], {}), (["best"], None), (["best"], ("level",)), (["points", 1], ()),
            (["shelf", "counts"], (1,)), (["shelf", "truths", 0], 1), (["mark", "many"], [None]),
        ]:
            wrong = exchanged(good_value(), path, thing)
            error = refusal(written, book, wrong)
            self.assertEqual(told(error), told(refusal(need_value, book, wrong)))
            self.assertEqual(type(error), BadValue)


if __name__ == "__main__":
    unittest.main()
