import random
import unittest

from chance import book_by_chance, changed_row, value_by_chance
from formkin.books import book_lines
from formkin.errors import BadRow, BadWire
from formkin.machine import Machine
from formkin.reading import read
from formkin.tables import Tables, compiled, tables_of, tables_text
from formkin.writing import written
from refusals import NO_ROWS, refusal, told
from rows import good_rows, sample_row
from samples import good_value, of_fields, ruin, sample_book, shown
from wrong_rows import WRONG

BAD_ROW = (BadRow, {})


def wire(place, why):
    return BadWire, {"place": place, "why": why}


def sized(row, size):
    return [row[at:at + size] for at in range(0, len(row), size)]


def cuts(row):
    """The row in pieces: whole, byte by byte, in other sizes, in lists and tuples, with empty ones among them."""
    yield [row]
    yield [tuple(row)]
    yield [[byte] for byte in row]
    for size in (2, 3, 7, 50):
        yield sized(row, size)
    yield [piece for byte in row for piece in ([], (byte,), ())]
    yield [[], row[:1], [], row[1:-1], tuple(row[-1:]) if len(row) > 1 else [], []]


def outcome(call, *arguments):
    try:
        return shown(call(*arguments))
    except BadWire as error:
        return told(error)


def byte_by_byte(tables, row):
    """What comes of a row, and how many bytes made that sure, None where the end did."""
    machine = Machine(tables)
    for place, byte in enumerate(row):
        try:
            machine.take([byte])
        except BadWire as error:
            return told(error), place + 1
    return outcome(machine.end), None


class Case(unittest.TestCase):
    def need_refused_alike(self, machine, asked):
        for piece in ([], [0], (255,) * 5, [4, 1], sample_row()):
            self.assertEqual(told(refusal(machine.take, piece)), asked)
            self.assertEqual(told(refusal(machine.end)), asked)
        for thing in NO_ROWS:
            self.assertEqual(told(refusal(machine.take, thing)), BAD_ROW)
        self.assertEqual(told(refusal(machine.end)), asked)
        self.assertEqual(told(refusal(machine.take, [])), asked)


class Values(Case):
    def test_rows_in_all_pieces(self):
        for book, value, row in good_rows():
            tables = compiled(book)
            for pieces in cuts(row):
                with self.subTest(lines=book_lines(book), pieces=len(pieces)):
                    machine = Machine(tables)
                    for piece in pieces:
                        self.assertIsNone(machine.take(piece))
                    self.assertEqual(shown(machine.end()), shown(value))

    def test_no_piece_at_all(self):
        self.assertEqual(Machine(compiled(of_fields())).end(), {})
        self.assertEqual(Machine(compiled(of_fields("1 a truth = yes", "2 b list truth"))).end(), {"a": True, "b": []})
        self.assertEqual(told(refusal(Machine(compiled(of_fields("1 a text must"))).end)), wire(0, "must"))

    def test_tables_read_back_from_their_lines(self):
        for book, value, row in good_rows():
            tables = tables_of(tables_text(compiled(book)))
            self.assertEqual(byte_by_byte(tables, row), (shown(value), None))
            machine = Machine(Tables(tables.rows))
            machine.take(row)
            self.assertEqual(shown(machine.end()), shown(value))

    def test_forms_that_weigh_more_than_a_hundred(self):
        lines = ["form a 0 10"] + [f"field {number} {name} 1 0 1 0" for number, name in enumerate("abcdefghij", 1)]
        lines += ["form b 0 10"] + [f"field {number} {name} 5 0 1 0" for number, name in enumerate("abcdefghij", 1)]
        part = [byte for number in range(1, 11) for byte in (4 * number, number)]
        row = [byte for number in range(1, 11) for byte in [4 * number + 1, 20] + part]
        value = {name: dict(zip("abcdefghij", range(1, 11))) for name in "abcdefghij"}
        self.assertEqual(byte_by_byte(tables_of(lines), row), (shown(value), None))
        self.assertEqual(byte_by_byte(tables_of(lines), row[:-22]), (wire(198, "must"), None))

    def test_what_read_tells_by_chance(self):
        source = random.Random(21)
        for step in range(120):
            book = book_by_chance(source)
            tables = compiled(book)
            row = written(book, value_by_chance(source, book, book.head()))
            for changed in [row] + [changed_row(source, row) for again in range(12)]:
                asked, sure = byte_by_byte(tables, changed)
                self.assertEqual(asked, outcome(read, book, changed))
                if sure is None:
                    continue
                # Not sure ahead of that byte; sure with it, whatever comes behind.
                self.assertNotEqual(asked, outcome(read, book, changed[:sure - 1]))
                for behind in ([], [0], [255] * 5, changed_row(source, changed)):
                    self.assertEqual(asked, outcome(read, book, changed[:sure] + behind))

    def test_great_rows(self):
        book = of_fields("1 a list form inner", "2 b list form inner", ahead=["record inner", "1 a list text"])
        value = {"a": [{"a": ["x" * 70] * 20}] * 10, "b": [{"a": ["y" * 70] * 20}] * 10}
        row = written(book, value)
        self.assertEqual(byte_by_byte(compiled(book), row), (shown(value), None))


class Refused(Case):
    def test_with_the_byte_that_makes_it_sure_or_with_the_end(self):
        for book, row, place, why, sure in WRONG:
            with self.subTest(lines=book_lines(book)[15:], row=row):
                self.assertEqual(byte_by_byte(compiled(book), row), (wire(place, why), sure))

    def test_with_the_piece_that_makes_it_sure(self):
        for book, row, place, why, sure in WRONG:
            for pieces in cuts(row + [9, 200, 0]) if sure is not None else cuts(row):
                with self.subTest(lines=book_lines(book)[15:], row=row, pieces=len(pieces)):
                    self.need_piece(Machine(compiled(book)), pieces, wire(place, why), sure)

    def need_piece(self, machine, pieces, asked, sure):
        came = 0
        for piece in pieces:
            came += len(piece)
            if sure is not None and came >= sure:
                self.assertEqual(told(refusal(machine.take, piece)), asked)
                return
            self.assertIsNone(machine.take(piece))
        self.assertIsNone(sure)
        self.assertEqual(told(refusal(machine.end)), asked)

    def test_from_then_on_all_is_refused_alike(self):
        for book, row, place, why, sure in WRONG:
            with self.subTest(lines=book_lines(book)[15:], row=row):
                machine = Machine(compiled(book))
                if sure is None:
                    machine.take(row)
                    refusal(machine.end)
                else:
                    refusal(machine.take, row)
                self.need_refused_alike(machine, wire(place, why))

    def test_an_end_that_came_too_early_stays_refused(self):
        machine = Machine(compiled(of_fields("1 a count must")))
        self.assertEqual(told(refusal(machine.end)), wire(0, "must"))
        self.need_refused_alike(machine, wire(0, "must"))
        machine = Machine(compiled(of_fields("1 a count must")))
        machine.take([4])
        self.assertEqual(told(refusal(machine.end)), wire(1, "cut"))
        self.need_refused_alike(machine, wire(1, "cut"))

    def test_places_are_counted_from_the_rows_beginning(self):
        machine = Machine(compiled(of_fields("1 a text", "2 b count", "3 c truth")))
        for piece in ([5, 3, 97], [], [98, 99, 8], [200, 1]):
            self.assertIsNone(machine.take(piece))
        self.assertEqual(told(refusal(machine.take, [12, 2, 0])), wire(9, "value"))

    def test_what_is_no_row_changes_nothing(self):
        book = sample_book()
        row = sample_row()
        machine = Machine(compiled(book))
        for at in range(0, len(row), 5):
            for thing in NO_ROWS + [row[at:] + [256], [255] * 40 + [True]]:
                self.assertEqual(told(refusal(machine.take, thing)), BAD_ROW)
            self.assertIsNone(machine.take(row[at:at + 5]))
        self.assertEqual(told(refusal(machine.take, [256])), BAD_ROW)
        self.assertEqual(shown(machine.end()), shown(good_value()))


class Throughout(Case):
    def test_two_by_turns(self):
        book = sample_book()
        tables = compiled(book)
        other = of_fields("1 a text", "9 b list count")
        row = sample_row()
        other_row = [5, 4, 97, 98, 99, 100, 37, 5, 3, 1, 2, 172, 2]
        machines = [Machine(tables), Machine(tables), Machine(compiled(other)), Machine(tables)]
        refusal(machines[3].take, [0])
        for place, byte in enumerate(row):
            machines[0].take([byte])
            machines[1].take(row[place:place + 1])
            machines[2].take(other_row[place:place + 1])
        self.assertEqual(shown(machines[0].end()), shown(good_value()))
        self.assertEqual(shown(machines[2].end()), shown({"a": "abcd", "b": [1, 2, 300]}))
        self.assertEqual(shown(machines[1].end()), shown(good_value()))
        self.assertEqual(told(refusal(machines[3].end)), wire(0, "key"))

    def test_pieces_that_are_changed_behind(self):
        book = of_fields("1 a text", "2 b list upto 5", "9 c form none", ahead=["record none"])
        row = [5, 2, 97, 98, 9, 3, 3, 104, 0, 17, 2, 7, 7, 37, 3, 8, 255, 1, 41, 1, 5]
        value = shown(read(book, row))
        for size in (1, 2, 4, 30):
            machine = Machine(compiled(book))
            for piece in sized(row, size):
                kept = list(piece)
                machine.take(piece)
                self.assertEqual(piece, kept)
                ruin(piece)
            self.assertEqual(shown(machine.end()), value)

    def test_what_was_told_and_is_changed(self):
        tables = compiled(sample_book())
        rows = shown(tables.rows)
        for row in (sample_row(), written(sample_book(), read(sample_book(), sample_row()))):
            machine = Machine(tables)
            machine.take(row)
            value = machine.end()
            ruin(value)
            again = Machine(tables)
            again.take(row)
            self.assertEqual(shown(again.end()), shown(good_value()))
        self.assertEqual(shown(tables.rows), rows)

    def test_a_list_that_is_left_out_is_a_new_one(self):
        tables = compiled(of_fields("1 a list truth", "2 b list form none", ahead=["record none"]))
        ruin(Machine(tables).end())
        self.assertEqual(Machine(tables).end(), {"a": [], "b": []})


if __name__ == "__main__":
    unittest.main()
