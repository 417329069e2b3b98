"""Rows of bytes: numbers in them, packed numbers, the check of a row, rows as texts."""

from formkin.errors import BadNumber, BadRow, BadText, BadWire
from formkin.words import is_among

# 2 ** 256 - 1, and 2 ** 255 - 1, the greatest whole number that can be folded.
MOST_NUMBER = 115792089237316195423570985008687907853269984665640564039457584007913129639935
MOST_WHOLE = 57896044618658097711785492504343953926634992332820282019728792003956564819967

# 36 sevens of bits leave four of the 256 to the last byte that a number may have.
LAST_PLACE = 36
LAST_MOST = 15

CHECK_START = 65535
CHECK_END = 65536
CHECK_LAID_OVER = 4129

SIGNS = "0123456789abcdef"


def is_row(row):
    return isinstance(row, (list, tuple)) and all([is_among(byte, 0, 255) for byte in row])


def need_row(row):
    if not is_row(row):
        raise BadRow("a row is a list or a tuple of bytes from 0 to 255")


def need_among(number, least, most):
    # The number is not told in the error's words: Python writes no number that is very long.
    if not is_among(number, least, most):
        raise BadNumber("no whole number within the bounds")


def number_row(number):
    need_among(number, 0, MOST_NUMBER)
    row = []
    left = number
    while left > 127:
        row.append(128 + left % 128)
        left = left // 128
    row.append(left)
    return row


def number_at(row, at, end):
    number = 0
    scale = 1
    for place in range(at, end):
        byte = row[place]
        # A byte of 0 is always a last one, as it lacks the 128.
        if byte == 0 and place > at:
            raise BadWire(place, "number")
        if byte > LAST_MOST and place - at == LAST_PLACE:
            raise BadWire(place, "number")
        number = number + byte % 128 * scale
        if byte < 128:
            return (number, place + 1)
        scale = scale * 128
    raise BadWire(end, "cut")


# Of the bytes of a number that came so far: whether it is over, or refused, by the last one of them.
def is_number_over(held):
    return held[-1] < 128 or len(held) > LAST_PLACE


def folded(number):
    need_among(number, -MOST_WHOLE - 1, MOST_WHOLE)
    if number < 0:
        return -2 * number - 1
    return 2 * number


def unfolded(number):
    need_among(number, 0, MOST_NUMBER)
    half = number // 2
    if number % 2 == 1:
        return -half - 1
    return half


def packed(numbers, width):
    row = []
    held = 0
    bits = 0
    for number in numbers:
        held = held + (number << bits)
        bits = bits + width
        if bits >= 8:
            row.append(held % 256)
            held = held // 256
            bits = bits - 8
    if bits > 0:
        row.append(held)
    return row


def unpacked(row, many, width):
    numbers = []
    held = 0
    bits = 0
    for byte in row:
        held = held + (byte << bits)
        bits = bits + 8
        # Fill bits may be as many as a number has, so it is counted, too.
        while bits >= width and len(numbers) < many:
            numbers.append(held % (1 << width))
            held = held >> width
            bits = bits - width
    return numbers


def fill_bits(row, many, width):
    # The row has just the bytes that it needs, so its last one alone can have fill.
    used = many * width % 8
    return used == 0 or row[-1] >> used == 0


def check(row):
    need_row(row)
    value = CHECK_START
    for byte in row:
        value = value ^ (byte << 8)
        for step in range(8):
            value = value << 1
            if value >= CHECK_END:
                value = (value - CHECK_END) ^ CHECK_LAID_OVER
    return value


def row_text(row):
    need_row(row)
    return "".join([SIGNS[byte // 16] + SIGNS[byte % 16] for byte in row])


def row_of(text):
    if not isinstance(text, str):
        raise BadText(0)
    halves = []
    for place, sign in enumerate(text):
        half = SIGNS.find(sign)
        if half < 0:
            raise BadText(place)
        halves.append(half)
    if len(halves) % 2 == 1:
        raise BadText(len(text))
    return [halves[at] * 16 + halves[at + 1] for at in range(0, len(halves), 2)]
