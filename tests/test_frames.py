import binascii
import unittest

from formkin.bits import number_row
from formkin.errors import BadCheck, BadRow, BadWire, FormError
from formkin.frames import Frames, framed, unframed
from refusals import NO_ROWS, refusal, told

BAD_CHECK = (BadCheck, {})
BAD_ROW = (BadRow, {})
SMALL = [[], [0], [255], [1, 2, 3], [128, 0], list(range(126)), list(range(127)), list(range(128)), [7] * 300]
LONG = [at * 7 % 256 for at in range(30000)]


def wire(place, why):
    return BadWire, {"place": place, "why": why}


def plain_framed(row):
    """Kept by the document's words, with a check that is not the program's."""
    kept = bytes(number_row(len(row)) + list(row))
    return list(kept) + list(binascii.crc_hqx(kept, 65535).to_bytes(2, "big"))


def turned(row, bit):
    """The row with one bit turned over."""
    return row[:bit // 8] + [row[bit // 8] ^ 1 << bit % 8] + row[bit // 8 + 1:]


def plain_length(row):
    """The number that a row begins with and how many bytes it has, or the refusal of it."""
    number = 0
    for place, byte in enumerate(row[:37]):
        if place > 0 and byte == 0 or place == 36 and byte > 15:
            return wire(place, "number")
        number = number + (byte % 128 << 7 * place)
        if byte < 128:
            return number, place + 1
    return wire(len(row), "cut")


def plain_unframed(row):
    """The row within, or what the refusal of it tells."""
    length = plain_length(row)
    if length[0] is BadWire:
        return length
    if sum(length) + 2 != len(row):
        return wire(0, "length")
    if plain_framed(row[length[1]:-2]) != row:
        return BAD_CHECK
    return row[length[1]:-2]


class Framing(unittest.TestCase):
    def test_written_out(self):
        self.assertEqual(framed([]), [0, 225, 240])
        self.assertEqual(framed([49]), [1, 49, 8, 76])
        self.assertEqual(unframed([0, 225, 240]), [])
        self.assertEqual(unframed([1, 49, 8, 76]), [49])

    def test_there_and_back(self):
        for row in SMALL:
            with self.subTest(len(row)):
                self.assertEqual(framed(row), plain_framed(row))
                self.assertEqual(framed(tuple(row)), plain_framed(row))
                self.assertEqual(unframed(plain_framed(row)), row)
                self.assertEqual(unframed(tuple(plain_framed(row))), row)

    def test_told_are_lists(self):
        for kind in (list, tuple):
            for row in SMALL:
                self.assertIs(type(framed(kind(row))), list)
                self.assertIs(type(unframed(kind(plain_framed(row)))), list)

    def test_the_length_takes_a_second_byte(self):
        self.assertEqual(framed([5] * 127)[:2], [127, 5])
        self.assertEqual(framed([5] * 128)[:3], [128, 1, 5])
        self.assertEqual([len(framed([5] * many)) for many in (0, 127, 128)], [3, 130, 132])

    def test_the_greater_half_of_the_check_first(self):
        for row in SMALL:
            kept = framed(row)
            self.assertEqual(kept[-2] * 256 + kept[-1], binascii.crc_hqx(bytes(kept[:-2]), 65535))

    def test_the_longest_row_and_one_more(self):
        kept = framed(LONG)
        self.assertEqual(kept, plain_framed(LONG))
        self.assertEqual(unframed(kept), LONG)
        self.assertEqual(told(refusal(framed, LONG + [0])), BAD_ROW)
        self.assertEqual(told(refusal(framed, tuple(LONG) + (0,))), BAD_ROW)

    def test_what_is_no_row(self):
        for thing in NO_ROWS + [LONG + [256], LONG + [True]]:
            with self.subTest(repr(type(thing))):
                self.assertEqual(told(refusal(framed, thing)), BAD_ROW)
                self.assertEqual(told(refusal(unframed, thing)), BAD_ROW)

    def test_no_row_ahead_of_all_else(self):
        for row in [[128, 0, 256], [5, True], [0, 225, 241, None], [0, 225, 240, -1]]:
            self.assertEqual(told(refusal(unframed, row)), BAD_ROW)

    def test_what_is_handed_in_is_as_it_was(self):
        row = [1, 2, 3]
        kept = framed(row)
        copy = list(kept)
        unframed(kept)
        refusal(unframed, copy[:-1])
        self.assertEqual((row, kept), ([1, 2, 3], plain_framed([1, 2, 3])))

    def test_what_is_told_is_the_askers_own(self):
        row = [1, 2, 3]
        framed(row).append(9)
        kept = plain_framed(row)
        unframed(kept).append(9)
        self.assertEqual((framed(row), unframed(kept)), (plain_framed(row), row))
        self.assertIsNot(framed(row), framed(row))


class WrongKeptRows(unittest.TestCase):
    def need_refused(self, row):
        asked = plain_unframed(row)
        self.assertIsInstance(asked, tuple)
        self.assertEqual(told(refusal(unframed, row)), asked)
        self.assertEqual(told(refusal(unframed, tuple(row))), asked)

    def test_each_shorter_one(self):
        for row in SMALL:
            kept = plain_framed(row)
            for many in range(len(kept)):
                self.need_refused(kept[:many])

    def test_with_bytes_behind_it(self):
        for row in SMALL:
            for more in [[0], [255], [0, 0], plain_framed([])]:
                self.assertEqual(told(refusal(unframed, plain_framed(row) + more)), wire(0, "length"))

    def test_each_with_one_bit_turned(self):
        for row in SMALL:
            kept = plain_framed(row)
            for bit in range(8 * len(kept)):
                self.need_refused(turned(kept, bit))

    def test_long_ones(self):
        kept = plain_framed(LONG)
        for row in [kept[:-1], kept[:-2], kept[1:], kept + [0], turned(kept, 0), turned(kept, 7), turned(kept, 24)]:
            self.need_refused(row)
        for bit in [24, 8 * 20000, 8 * len(kept) - 17, 8 * len(kept) - 16, 8 * len(kept) - 1]:
            self.assertEqual(told(refusal(unframed, turned(kept, bit))), BAD_CHECK)

    def test_written_out(self):
        wrong = [
            ([], wire(0, "cut")), ([128], wire(1, "cut")), ([255] * 36, wire(36, "cut")),
            ([128, 0], wire(1, "number")), ([255] * 36 + [16], wire(36, "number")), ([255] * 50, wire(36, "number")),
            ([0], wire(0, "length")), ([0, 225], wire(0, "length")), ([0, 225, 240, 0], wire(0, "length")),
            ([1, 225, 240], wire(0, "length")), ([128, 1, 225, 240], wire(0, "length")),
            ([128] * 36 + [1, 0, 0], wire(0, "length")),
            ([0, 225, 241], BAD_CHECK), ([0, 224, 240], BAD_CHECK), ([0, 240, 225], BAD_CHECK),
            ([1, 50, 8, 76], BAD_CHECK),
        ]
        for row, asked in wrong:
            with self.subTest(row):
                self.assertEqual(told(refusal(unframed, row)), asked)

    def test_a_wrong_length_ahead_of_a_wrong_check(self):
        self.assertEqual(told(refusal(unframed, [0, 1, 2, 3])), wire(0, "length"))
        self.assertEqual(told(refusal(unframed, [128, 0, 0, 0])), wire(1, "number"))


GOOD = [[1, 2, 3], [], [9] * 127, [0], list(range(128)), []]
AHEAD = [[5, 6], []]
# Each a stream of one kept row that is wrong, the byte that makes it sure, and what the refusal tells.
WRONG = [
    ([128, 0], 1, wire(1, "number")),
    ([129, 130, 0], 2, wire(2, "number")),
    ([255] * 36 + [16], 36, wire(36, "number")),
    ([255] * 37, 36, wire(36, "number")),
    ([128] * 36 + [0], 36, wire(36, "number")),
    (number_row(30001), 2, wire(0, "length")),
    (number_row(2 ** 256 - 1), 36, wire(0, "length")),
    ([255, 255, 127], 2, wire(0, "length")),
    ([0, 225, 241], 2, BAD_CHECK),
    ([0, 0, 240], 2, BAD_CHECK),
    ([1, 50, 8, 76], 3, BAD_CHECK),
    (turned(plain_framed(list(range(128))), 100), 131, BAD_CHECK),
]


def joined(rows):
    return [byte for row in rows for byte in plain_framed(row)]


def moved(asked, many):
    """What a refusal tells where so many bytes came ahead of it."""
    kind, fields = asked
    return (kind, {**fields, "place": fields["place"] + many}) if fields else asked


def cuts(stream):
    """The stream whole, and cut to pieces in several ways; some pieces are empty, some are tuples."""
    yield [stream]
    yield [tuple(stream)]
    yield [[byte] for byte in stream]
    yield [piece for byte in stream for piece in ([], (byte,), ())]
    for size in (2, 3, 5, 7, 64, 131):
        yield [stream[at:at + size] for at in range(0, len(stream), size)]
    for at in range(0, len(stream), 1 + len(stream) // 40):
        yield [stream[:at], stream[at:]]
        yield [[], stream[:at], [], tuple(stream[at:at + 4]), stream[at + 4:]]


def taken(frames, pieces):
    """The rows that are told, and what the first refusal tells, the end being asked last."""
    rows = []
    try:
        for piece in pieces:
            rows.extend(frames.take(piece))
        frames.end()
    except FormError as error:
        return rows, told(error)
    return rows, None


class Pieces(unittest.TestCase):
    def need_refused_alike(self, frames, asked):
        for piece in [[], [0], plain_framed([1]), (), [128, 0], [0] * 300]:
            self.assertEqual(told(refusal(frames.take, piece)), asked)
            self.assertEqual(told(refusal(frames.end)), asked)

    def test_good_ones_however_they_are_cut(self):
        for pieces in cuts(joined(GOOD)):
            self.assertEqual(taken(Frames(), pieces), (GOOD, None))

    def test_each_row_comes_with_its_last_byte(self):
        frames = Frames()
        for row in GOOD:
            kept = plain_framed(row)
            for byte in kept[:-1]:
                self.assertEqual(frames.take([byte]), [])
            self.assertEqual(frames.take([kept[-1]]), [row])
            self.assertIsNone(frames.end())

    def test_nothing_at_all(self):
        frames = Frames()
        self.assertIsNone(frames.end())
        self.assertEqual(frames.take([]), [])
        self.assertEqual(frames.take(()), [])
        self.assertIsNone(frames.end())

    def test_the_longest_row(self):
        kept = plain_framed(LONG)
        cut = [[kept[:2], kept[2:], kept], [kept[:20000], kept[20000:] + kept]]
        for pieces in [[kept], [[byte] for byte in kept]] + cut:
            rows, asked = taken(Frames(), pieces)
            self.assertEqual((rows, asked), ([LONG] * len(rows), None))
            self.assertEqual(len(rows) * len(kept), sum(len(piece) for piece in pieces))

    def test_a_wrong_one_alone(self):
        for stream, last, asked in WRONG:
            for behind in [[], [0], joined(GOOD)]:
                for pieces in cuts(stream + behind):
                    with self.subTest(stream=stream[:4], pieces=len(pieces)):
                        frames = Frames()
                        self.assertEqual(taken(frames, pieces), ([], asked))
                        self.need_refused_alike(frames, asked)

    def test_refused_at_once_with_the_byte_that_makes_it_sure(self):
        for stream, last, asked in WRONG:
            with self.subTest(stream[:4]):
                frames = Frames()
                for byte in stream[:last]:
                    self.assertEqual(frames.take([byte]), [])
                self.assertEqual(told(refusal(frames.take, [stream[last]])), asked)
                frames = Frames()
                self.assertEqual(frames.take(stream[:last]), [])
                self.assertEqual(told(refusal(frames.end)), wire(last, "cut"))
                self.assertEqual(told(refusal(frames.take, stream[last:])), asked)

    def test_behind_whole_rows_however_they_are_cut(self):
        ahead = joined(AHEAD)
        for stream, last, asked in WRONG:
            for behind in [[], joined(GOOD)]:
                for pieces in cuts(ahead + stream + behind):
                    with self.subTest(stream=stream[:4], pieces=len(pieces)):
                        frames = Frames()
                        self.assertEqual(taken(frames, pieces), (AHEAD, moved(asked, len(ahead))))
                        self.need_refused_alike(frames, moved(asked, len(ahead)))

    def test_behind_whole_rows_in_the_same_piece(self):
        ahead = joined(AHEAD)
        for stream, last, asked in WRONG:
            for call, arguments in [("take", [[]]), ("take", [[7]]), ("take", [plain_framed([1])]), ("end", [])]:
                with self.subTest(stream=stream[:4], call=call):
                    frames = Frames()
                    self.assertEqual(frames.take(ahead + stream + plain_framed([8])), AHEAD)
                    self.assertEqual(told(refusal(getattr(frames, call), *arguments)), moved(asked, len(ahead)))
                    self.need_refused_alike(frames, moved(asked, len(ahead)))

    def test_behind_whole_rows_in_a_piece_of_its_own(self):
        ahead = joined(AHEAD)
        for stream, last, asked in WRONG:
            with self.subTest(stream[:4]):
                frames = Frames()
                self.assertEqual(frames.take(ahead), AHEAD)
                self.assertEqual(told(refusal(frames.take, stream + plain_framed([8]))), moved(asked, len(ahead)))
                self.need_refused_alike(frames, moved(asked, len(ahead)))

    def test_the_wrong_byte_alone_in_its_piece(self):
        frames = Frames()
        self.assertEqual(frames.take(plain_framed([4]) + [128]), [[4]])
        self.assertEqual(told(refusal(frames.take, [0])), wire(5, "number"))

    def test_a_row_that_ends_in_the_piece_ahead_of_a_wrong_one(self):
        kept = plain_framed([4, 5])
        frames = Frames()
        self.assertEqual(frames.take(kept[:3]), [])
        self.assertEqual(frames.take(kept[3:] + [128, 0]), [[4, 5]])
        self.assertEqual(told(refusal(frames.take, [])), wire(6, "number"))

    def test_cut_at_the_end(self):
        stream = joined(AHEAD) + plain_framed([9] * 130)
        whole = {0: 0, 5: 1, 8: 2, len(stream): 3}
        for many in range(len(stream) + 1):
            for pieces in [[stream[:many]], [[byte] for byte in stream[:many]]]:
                rows, asked = taken(Frames(), pieces)
                self.assertEqual(rows, (AHEAD + [[9] * 130])[:max(whole[at] for at in whole if at <= many)])
                self.assertEqual(asked, None if many in whole else wire(many, "cut"))

    def test_an_end_that_is_refused_changes_nothing(self):
        frames = Frames()
        rows = []
        for place, byte in enumerate(plain_framed([1, 2])):
            rows.extend(frames.take([byte]))
            if rows == []:
                self.assertEqual(told(refusal(frames.end)), wire(place + 1, "cut"))
        self.assertEqual(rows, [[1, 2]])
        self.assertIsNone(frames.end())

    def test_what_is_no_row_changes_nothing(self):
        kept = plain_framed([1, 2])
        frames = Frames()
        for at in range(len(kept)):
            for thing in NO_ROWS + [kept[at:] + [256], [128, 0, True]]:
                self.assertEqual(told(refusal(frames.take, thing)), BAD_ROW)
            self.assertEqual(frames.take(kept[at:at + 1]), [[1, 2]] if at == len(kept) - 1 else [])
        self.assertIsNone(frames.end())

    def test_what_is_no_row_once_something_was_wrong(self):
        for ahead in [[], [[3]]]:
            frames = Frames()
            try:
                frames.take(joined(ahead) + [0, 1, 1])
            except BadCheck:
                self.assertEqual(ahead, [])
            for thing in NO_ROWS:
                self.assertEqual(told(refusal(frames.take, thing)), BAD_ROW)
            self.need_refused_alike(frames, BAD_CHECK)

    def test_two_by_turns(self):
        one, other, third = Frames(), Frames(), Frames()
        rows = [[], []]
        refusal(third.take, [128, 0])
        for left, right in zip(plain_framed([1, 2, 3]), plain_framed([7, 8, 9])):
            rows[0].extend(one.take([left]))
            rows[1].extend(other.take([right]))
        self.assertEqual(rows, [[[1, 2, 3]], [[7, 8, 9]]])
        refusal(one.take, [0, 0, 0])
        self.assertEqual(other.take(plain_framed([4])), [[4]])
        self.assertEqual(told(refusal(third.end)), wire(1, "number"))

    def test_pieces_that_are_changed_behind(self):
        kept = plain_framed([1, 2, 3])
        frames = Frames()
        piece = kept[:3]
        self.assertEqual(frames.take(piece), [])
        self.assertEqual(piece, kept[:3])
        piece[1] = 77
        piece.append(5)
        self.assertEqual(frames.take(kept[3:]), [[1, 2, 3]])

    def test_rows_that_were_told_and_are_changed(self):
        frames = Frames()
        rows = frames.take(plain_framed([1, 2]) + plain_framed([3])[:2])
        rows[0].append(9)
        rows.append([9])
        self.assertEqual(frames.take(plain_framed([3])[2:] + plain_framed([1, 2])), [[3], [1, 2]])
        frames.take([]).append([9])
        self.assertEqual(frames.take([]), [])
        self.assertEqual(rows, [[1, 2, 9], [9]])
        self.assertIs(type(rows[0]), list)

    def test_rows_of_unlike_length_bytes_by_turns(self):
        rows = [[1] * 127, [2] * 128, [3], [4] * 200, []]
        for pieces in cuts(joined(rows)):
            self.assertEqual(taken(Frames(), pieces), (rows, None))


if __name__ == "__main__":
    unittest.main()
