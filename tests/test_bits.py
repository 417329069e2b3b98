import binascii
import unittest

from formkin.bits import (
    MOST_NUMBER, check, fill_bits, folded, number_at, number_row, packed, row_of, row_text, unfolded, unpacked,
)
from formkin.errors import BadNumber, BadRow, BadText, BadWire
from refusals import NO_NUMBERS, NO_ROWS, NO_TEXTS, refusal, told

EDGES = [0, 1, 2, 126, 127, 128, 129, 255, 256, 300, 16383, 16384, 2 ** 64, 2 ** 252 - 1, 2 ** 252, 2 ** 255]
MOST_ROW = [255] * 36 + [15]


def wire(place, why):
    return BadWire, {"place": place, "why": why}


class NumberRows(unittest.TestCase):
    def test_most_number(self):
        self.assertEqual(MOST_NUMBER, 2 ** 256 - 1)

    def test_rows(self):
        rows = [(0, [0]), (1, [1]), (127, [127]), (128, [128, 1]), (300, [172, 2]), (16383, [255, 127])]
        for number, row in rows + [(16384, [128, 128, 1]), (2 ** 252, [128] * 36 + [1]), (MOST_NUMBER, MOST_ROW)]:
            with self.subTest(number):
                self.assertEqual(number_row(number), row)
                self.assertIs(type(number_row(number)), list)

    def test_out_of_bounds(self):
        for number in [MOST_NUMBER + 1, 2 ** 300, 10 ** 5000, -1, -128, -MOST_NUMBER, -10 ** 5000]:
            self.assertEqual(told(refusal(number_row, number)), (BadNumber, {}))

    def test_what_is_no_number(self):
        for thing in NO_NUMBERS:
            with self.subTest(repr(thing)):
                self.assertEqual(told(refusal(number_row, thing)), (BadNumber, {}))

    def test_what_is_told_is_the_askers_own(self):
        row = number_row(300)
        row.append(9)
        self.assertEqual(number_row(300), [172, 2])


class NumberAt(unittest.TestCase):
    def test_there_and_back(self):
        for number in list(range(1000)) + EDGES + [MOST_NUMBER - 1, MOST_NUMBER]:
            row = number_row(number)
            self.assertEqual(number_at(row, 0, len(row)), (number, len(row)))
            self.assertEqual(number_at(tuple(row), 0, len(row)), (number, len(row)))

    def test_told_is_a_tuple(self):
        self.assertIs(type(number_at([5], 0, 1)), tuple)

    def test_amid_a_row(self):
        row = [0, 128, 172, 2, 7, 255]
        for kind in (list, tuple):
            self.assertEqual(number_at(kind(row), 2, 6), (300, 4))
            self.assertEqual(number_at(kind(row), 3, 6), (2, 4))
            self.assertEqual(number_at(kind(row), 4, 6), (7, 5))
            self.assertEqual(number_at(kind(row), 0, 6), (0, 1))

    def test_an_end_right_behind_it(self):
        self.assertEqual(number_at([9, 172, 2, 9], 1, 3), (300, 3))
        self.assertEqual(number_at([9] + MOST_ROW + [0], 1, 38), (MOST_NUMBER, 38))

    def test_nought_as_the_only_byte(self):
        self.assertEqual(number_at([0], 0, 1), (0, 1))
        self.assertEqual(number_at([128, 0, 0], 2, 3), (0, 3))
        self.assertEqual(number_at([128, 0, 0], 1, 3), (0, 2))

    def test_nought_as_the_last_of_several(self):
        for row, at, place in [([128, 0], 0, 1), ([172, 0], 0, 1), ([128, 128, 0], 0, 2), ([7, 129, 130, 0, 5], 1, 3)]:
            with self.subTest(row):
                self.assertEqual(told(refusal(number_at, row, at, len(row))), wire(place, "number"))
                self.assertEqual(told(refusal(number_at, tuple(row), at, place + 1)), wire(place, "number"))

    def test_sevens_of_noughts_amid(self):
        self.assertEqual(number_at([128, 128, 1], 0, 3), (16384, 3))

    def test_the_thirty_seventh_byte(self):
        for byte in range(1, 16):
            self.assertEqual(number_at([128] * 36 + [byte], 0, 37), (byte * 2 ** 252, 37))
        for byte in [16, 17, 127, 128, 129, 143, 144, 255]:
            with self.subTest(byte):
                row = [255] * 36 + [byte, 1]
                self.assertEqual(told(refusal(number_at, row, 0, 37)), wire(36, "number"))
                self.assertEqual(told(refusal(number_at, row, 0, 38)), wire(36, "number"))
                self.assertEqual(told(refusal(number_at, [1, 1] + row, 2, 40)), wire(38, "number"))

    def test_nought_as_the_thirty_seventh(self):
        self.assertEqual(told(refusal(number_at, [255] * 36 + [0], 0, 37)), wire(36, "number"))

    def test_great_bytes_ahead_of_the_thirty_seventh(self):
        self.assertEqual(number_at([255] * 35 + [127], 0, 36), (2 ** 252 - 1, 36))
        self.assertEqual(number_at([128] * 35 + [16], 0, 36), (16 * 2 ** 245, 36))

    def test_cut_at_the_rows_end(self):
        for row, at in [([], 0), ([128], 0), ([172], 0), ([1, 2], 2), ([1, 255, 255], 1), ([255] * 36, 0)]:
            with self.subTest(row):
                self.assertEqual(told(refusal(number_at, row, at, len(row))), wire(len(row), "cut"))

    def test_cut_at_an_end_ahead_of_the_rows_end(self):
        self.assertEqual(told(refusal(number_at, [172, 2], 0, 1)), wire(1, "cut"))
        self.assertEqual(told(refusal(number_at, [172, 2], 0, 0)), wire(0, "cut"))
        self.assertEqual(told(refusal(number_at, [1, 172, 2], 2, 2)), wire(2, "cut"))
        self.assertEqual(told(refusal(number_at, MOST_ROW, 0, 36)), wire(36, "cut"))

    def test_whichever_comes_first(self):
        self.assertEqual(told(refusal(number_at, [128, 0], 0, 1)), wire(1, "cut"))
        self.assertEqual(told(refusal(number_at, [255] * 36 + [16], 0, 36)), wire(36, "cut"))
        self.assertEqual(told(refusal(number_at, [255] * 50, 0, 50)), wire(36, "number"))
        self.assertEqual(told(refusal(number_at, [255] * 20 + [0] + [255] * 30, 0, 51)), wire(20, "number"))

    def test_the_row_is_as_it_was(self):
        row = [172, 2, 128, 0]
        number_at(row, 0, 4)
        refusal(number_at, row, 2, 4)
        self.assertEqual(row, [172, 2, 128, 0])


class Folding(unittest.TestCase):
    def test_folded(self):
        for number, fold in [(0, 0), (-1, 1), (1, 2), (-2, 3), (2, 4), (-150, 299), (150, 300)]:
            self.assertEqual(folded(number), fold)
            self.assertEqual(unfolded(fold), number)

    def test_there_and_back(self):
        for number in list(range(-500, 500)) + EDGES[:-1] + [-edge for edge in EDGES]:
            self.assertEqual(unfolded(folded(number)), number)
        for number in list(range(1000)) + EDGES:
            self.assertEqual(folded(unfolded(number)), number)

    def test_bounds(self):
        self.assertEqual(folded(-2 ** 255), MOST_NUMBER)
        self.assertEqual(folded(2 ** 255 - 1), MOST_NUMBER - 1)
        self.assertEqual(unfolded(MOST_NUMBER), -2 ** 255)
        self.assertEqual(unfolded(MOST_NUMBER - 1), 2 ** 255 - 1)

    def test_beyond_the_bounds(self):
        for number in [-2 ** 255 - 1, 2 ** 255, 2 ** 256, 10 ** 5000, -10 ** 5000]:
            self.assertEqual(told(refusal(folded, number)), (BadNumber, {}))
        for number in [-1, -2, MOST_NUMBER + 1, 10 ** 5000, -10 ** 5000]:
            self.assertEqual(told(refusal(unfolded, number)), (BadNumber, {}))

    def test_what_is_no_number(self):
        for thing in NO_NUMBERS:
            with self.subTest(repr(thing)):
                self.assertEqual(told(refusal(folded, thing)), (BadNumber, {}))
                self.assertEqual(told(refusal(unfolded, thing)), (BadNumber, {}))


def plain_packed(numbers, width):
    """Packed by the document's words, bit by bit, to be held against the program's answer."""
    bits = [number >> bit & 1 for number in numbers for bit in range(width)]
    bits = bits + [0] * (-len(bits) % 8)
    return [sum(bits[at + bit] << bit for bit in range(8)) for at in range(0, len(bits), 8)]


def numbers_of(width, many):
    return [(place * 37 + 11 * many + 1) % 2 ** width for place in range(many)]


class Packing(unittest.TestCase):
    def test_packed(self):
        self.assertEqual(packed([], 3), [])
        self.assertEqual(packed([1, 0, 1], 1), [5])
        self.assertEqual(packed([1, 0, 0, 0, 0, 0, 0, 0, 1], 1), [1, 1])
        self.assertEqual(packed([1, 2, 3], 2), [57])
        self.assertEqual(packed([7, 0, 5], 3), [71, 1])
        self.assertEqual(packed([1, 2], 4), [33])
        self.assertEqual(packed([31, 1], 5), [63, 0])
        self.assertEqual(packed([200, 0, 255], 8), [200, 0, 255])

    def test_each_width_bit_by_bit(self):
        for width in range(1, 9):
            for many in range(0, 25):
                with self.subTest(width=width, many=many):
                    numbers = numbers_of(width, many)
                    self.assertEqual(packed(numbers, width), plain_packed(numbers, width))
                    most = [2 ** width - 1] * many
                    self.assertEqual(packed(most, width), plain_packed(most, width))

    def test_there_and_back(self):
        for width in range(1, 9):
            for many in range(0, 25):
                with self.subTest(width=width, many=many):
                    for numbers in [numbers_of(width, many), [2 ** width - 1] * many, [0] * many]:
                        row = plain_packed(numbers, width)
                        self.assertEqual(unpacked(row, many, width), numbers)
                        self.assertEqual(unpacked(tuple(row), many, width), numbers)
                        self.assertIs(fill_bits(row, many, width), True)
                        self.assertIs(fill_bits(tuple(row), many, width), True)

    def test_each_fill_bit(self):
        for width in range(1, 9):
            for many in range(0, 25):
                used = many * width % 8
                if used == 0:
                    continue
                for bit in range(used, 8):
                    with self.subTest(width=width, many=many, bit=bit):
                        numbers = numbers_of(width, many)
                        row = plain_packed(numbers, width)
                        row[-1] = row[-1] + 2 ** bit
                        self.assertIs(fill_bits(row, many, width), False)
                        self.assertIs(fill_bits(tuple(row), many, width), False)
                        self.assertEqual(unpacked(row, many, width), numbers)

    def test_a_last_byte_that_is_full_has_no_fill(self):
        for many, width in [(8, 1), (4, 2), (8, 3), (2, 4), (8, 5), (4, 6), (8, 7), (3, 8)]:
            self.assertIs(fill_bits([255] * (many * width // 8), many, width), True)
        self.assertIs(fill_bits([], 0, 5), True)

    def test_what_is_handed_in_is_as_it_was(self):
        numbers = [1, 2, 3]
        row = [57]
        packed(numbers, 2)
        unpacked(row, 3, 2)
        fill_bits(row, 3, 2)
        self.assertEqual((numbers, row), ([1, 2, 3], [57]))

    def test_what_is_told_is_the_askers_own(self):
        packed([1, 2, 3], 2).append(9)
        self.assertEqual(packed([1, 2, 3], 2), [57])
        packed([], 2).append(9)
        self.assertEqual(packed([], 2), [])
        numbers = [200, 7]
        packed(numbers, 8).append(9)
        row = [200, 7]
        unpacked(row, 2, 8).append(9)
        self.assertEqual((numbers, row), ([200, 7], [200, 7]))
        self.assertEqual(unpacked(row, 2, 8), [200, 7])


class Checks(unittest.TestCase):
    def test_of_the_empty_row(self):
        self.assertEqual(check([]), 65535)
        self.assertEqual(check(()), 65535)

    def test_of_others(self):
        self.assertEqual(check([49, 50, 51, 52, 53, 54, 55, 56, 57]), 10673)
        self.assertEqual(check([0]), 57840)
        self.assertEqual(check([255]), 65280)
        self.assertEqual(check((0, 0)), 7439)
        self.assertEqual(check([255, 255]), 0)

    def test_against_the_known_check(self):
        rows = [[byte] for byte in range(256)] + [[(at * at + many) % 256 for at in range(many)] for many in range(60)]
        for row in rows:
            self.assertEqual(check(row), binascii.crc_hqx(bytes(row), 65535))
            self.assertEqual(check(tuple(row)), check(row))

    def test_a_long_row(self):
        row = [at * 7 % 256 for at in range(30000)]
        self.assertEqual(check(row), binascii.crc_hqx(bytes(row), 65535))

    def test_what_is_no_row(self):
        for thing in NO_ROWS:
            with self.subTest(repr(type(thing))):
                self.assertEqual(told(refusal(check, thing)), (BadRow, {}))

    def test_the_row_is_as_it_was(self):
        row = [1, 2, 255]
        self.assertEqual(check(row), check(row))
        self.assertEqual(row, [1, 2, 255])


class RowTexts(unittest.TestCase):
    def test_row_text(self):
        self.assertEqual(row_text([]), "")
        self.assertEqual(row_text([0]), "00")
        self.assertEqual(row_text([172, 2]), "ac02")
        self.assertEqual(row_text((1, 16, 255)), "0110ff")

    def test_there_and_back(self):
        for row in [[], [0], [255], list(range(256)), list(range(255, -1, -1)), [0, 0, 0]]:
            self.assertEqual(row_text(row), bytes(row).hex())
            self.assertEqual(row_text(tuple(row)), bytes(row).hex())
            self.assertEqual(row_of(row_text(row)), row)

    def test_row_text_of_what_is_no_row(self):
        for thing in NO_ROWS:
            with self.subTest(repr(type(thing))):
                self.assertEqual(told(refusal(row_text, thing)), (BadRow, {}))

    def test_row_of(self):
        self.assertEqual(row_of(""), [])
        self.assertEqual(row_of("ac02"), [172, 2])
        self.assertIs(type(row_of("00")), list)

    def test_row_of_what_is_no_text(self):
        for thing in NO_TEXTS:
            with self.subTest(repr(thing)):
                self.assertEqual(told(refusal(row_of, thing)), (BadText, {"place": 0}))

    def test_a_wrong_sign(self):
        wrong = [("g", 0), ("0g", 1), ("00g0", 2), ("000g", 3), (" 00", 0), ("00 ", 2), ("00\n", 2), ("0\t", 1)]
        wrong = wrong + [("A0", 0), ("0A", 1), ("acF2", 2), ("ABCDEF", 0), ("0x10", 1), ("-1", 0), ("\u0661\u0661", 0)]
        for text, place in wrong:
            with self.subTest(text):
                self.assertEqual(told(refusal(row_of, text)), (BadText, {"place": place}))

    def test_every_other_sign(self):
        for number in range(300):
            if chr(number) not in "0123456789abcdef":
                with self.subTest(number):
                    self.assertEqual(told(refusal(row_of, "a" + chr(number))), (BadText, {"place": 1}))

    def test_a_sign_that_lacks(self):
        for text in ["0", "f", "000", "ac02a", "0" * 4001]:
            with self.subTest(text):
                self.assertEqual(told(refusal(row_of, text)), (BadText, {"place": len(text)}))

    def test_of_two_the_first(self):
        self.assertEqual(told(refusal(row_of, "0z0y0")), (BadText, {"place": 1}))
        self.assertEqual(told(refusal(row_of, "00000z0")), (BadText, {"place": 5}))

    def test_what_is_told_is_the_askers_own(self):
        row_of("").append(9)
        self.assertEqual(row_of(""), [])
        row_of("ac02").append(9)
        self.assertEqual(row_of("ac02"), [172, 2])

    def test_the_row_is_as_it_was(self):
        row = [1, 2, 255]
        row_text(row)
        self.assertEqual(row, [1, 2, 255])


if __name__ == "__main__":
    unittest.main()
