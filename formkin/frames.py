"""Kept rows: a row with its length ahead and the check of both behind, whole or in pieces."""

from formkin.bits import check, is_number_over, need_row, number_at, number_row
from formkin.errors import BadCheck, BadRow, BadWire

MOST_BYTES = 30000
CHECK_BYTES = 2


def framed(row):
    need_row(row)
    if len(row) > MOST_BYTES:
        raise BadRow("a row that is kept has 30000 bytes at most")
    kept = number_row(len(row)) + list(row)
    value = check(kept)
    return kept + [value // 256, value % 256]


def is_checked(kept):
    return check(kept[:-CHECK_BYTES]) == kept[-2] * 256 + kept[-1]


def unframed(row):
    need_row(row)
    length = number_at(row, 0, len(row))
    many = length[0]
    behind = length[1]
    if len(row) != behind + many + CHECK_BYTES:
        raise BadWire(0, "length")
    if not is_checked(row):
        raise BadCheck("the check of a kept row is another one")
    return list(row[behind:-CHECK_BYTES])


class Frames:
    def __init__(self):
        # What came of the kept row that isn't whole, and its first byte's place among all that came.
        self.held = []
        self.start = 0
        # The place behind its length, and how many bytes it has in all: 0 while its length isn't over.
        self.behind = 0
        self.size = 0
        # What was wrong, once something was: from then on all is refused alike.
        self.place = 0
        self.why = ""

    def take(self, row):
        need_row(row)
        self.need_right()
        rows = []
        for byte in row:
            self.held.append(byte)
            if self.size == 0:
                self.look_at_length()
            elif len(self.held) == self.size:
                self.finish(rows)
            if self.why != "":
                break
        # Rows that came whole are told first; what is wrong behind them comes with what is asked next.
        if len(rows) == 0:
            self.need_right()
        return rows

    def end(self):
        self.need_right()
        if len(self.held) > 0:
            raise BadWire(self.start + len(self.held), "cut")

    def need_right(self):
        if self.why == "check":
            raise BadCheck("the check of a kept row is another one")
        if self.why != "":
            raise BadWire(self.place, self.why)

    def look_at_length(self):
        came = len(self.held)
        if not is_number_over(self.held):
            return
        try:
            many = number_at(self.held, 0, came)[0]
        except BadWire as error:
            self.refuse(self.start + error.place, error.why)
            return
        if many > MOST_BYTES:
            self.refuse(self.start, "length")
            return
        self.behind = came
        self.size = came + many + CHECK_BYTES

    def finish(self, rows):
        if not is_checked(self.held):
            self.refuse(self.start, "check")
            return
        rows.append(self.held[self.behind:-CHECK_BYTES])
        self.start = self.start + self.size
        self.held = []
        self.size = 0

    def refuse(self, place, why):
        self.place = place
        self.why = why
