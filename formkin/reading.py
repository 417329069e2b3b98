"""Reading: the value of a row by a book."""

from formkin.bits import MOST_NUMBER, fill_bits, need_row, number_at, unfolded, unpacked
from formkin.books import MOST_FIELD_NUMBER
from formkin.errors import BadWire
from formkin.kinds import MOST_THINGS, List, Text, Truth, Upto, Whole, is_sign, sign_of
from formkin.values import RESTS, default_value, is_left_out
from formkin.words import is_among


# The greatest number by which a truth or a number of this kind stands in a row.
def most_number(kind):
    if isinstance(kind, Truth):
        return 1
    if isinstance(kind, Upto):
        return kind.most
    return MOST_NUMBER


def thing_of(kind, number):
    if isinstance(kind, Truth):
        return number == 1
    if isinstance(kind, Whole):
        return unfolded(number)
    return number


# The word for what a key of this form can't be, behind the field of the number ahead; "" of a good one.
def key_fault(form, key, ahead):
    number = key // 4
    shape = key % 4
    if not is_among(number, 1, MOST_FIELD_NUMBER):
        return "key"
    if number <= ahead:
        return "order"
    field = form.field_at(number)
    if field is None and form.is_choice():
        return "choice"
    if shape > 1 or (field is not None and shape != field.kind.shape()):
        return "shape"
    return ""


# What stands in a record by the names of its fields, and what it has by default else.
def record_of(form, things, rests):
    value = {}
    for field in form.fields:
        value[field.name] = things[field.name] if field.name in things else default_value(field)
    if len(rests) > 0:
        value[RESTS] = list(rests)
    return value


def need_musts(form, things, place):
    if not all([field.name in things for field in form.fields if field.must]):
        raise BadWire(place, "must")


# The told end of a part behind its length, which begins at the start and stands ahead of the place.
def part_end(start, place, length, end):
    # No length tells the end of the whole, so one may lead beyond it; then something is cut.
    if end is not None and place + length > end:
        raise BadWire(start, "length")
    return place + length


def packed_size(many, width):
    return (many * width + 7) // 8


# Of the first bytes of packed things: the things that are over by then; the first byte's place is told.
def packed_things(row, many, kind, place):
    width = kind.width()
    numbers = unpacked(row, many, width)
    for at, number in enumerate(numbers):
        if number > most_number(kind):
            raise BadWire(place + ((at + 1) * width - 1) // 8, "value")
    if len(row) == packed_size(many, width) and not fill_bits(row, many, width):
        raise BadWire(place + len(row) - 1, "value")
    return [thing_of(kind, number) for number in numbers]


class Wire:
    # A row, and how far it was read. Ends are those that lengths tell, None of the whole.
    def __init__(self, book, row):
        self.book = book
        self.row = list(row)
        self.place = 0

    # Where what is there of a part is over.
    def last_of(self, end):
        return len(self.row) if end is None else min(end, len(self.row))

    def is_over(self, end):
        return self.place == (len(self.row) if end is None else end)

    def read_number(self, end):
        found = number_at(self.row, self.place, self.last_of(end))
        self.place = found[1]
        return found[0]

    # All bytes up to a told end.
    def read_bytes(self, end):
        if end > len(self.row):
            raise BadWire(len(self.row), "cut")
        part = self.row[self.place:end]
        self.place = end
        return part

    # Nothing may be left of a part.
    def need_over(self, end, why):
        if self.place < self.last_of(end):
            raise BadWire(self.place, why)
        self.read_bytes(end)


def read_key(wire, form, ahead, end):
    start = wire.place
    key = wire.read_number(end)
    fault = key_fault(form, key, ahead)
    if fault != "":
        raise BadWire(start, fault)
    return key


def read_plain(wire, kind, end):
    start = wire.place
    number = wire.read_number(end)
    if number > most_number(kind):
        raise BadWire(start, "value")
    return thing_of(kind, number)


def read_length(wire, end):
    start = wire.place
    length = wire.read_number(end)
    return part_end(start, wire.place, length, end)


def read_text(wire, kind, end):
    start = wire.place
    length = wire.read_number(end)
    if length > kind.most:
        raise BadWire(start, "value")
    last = part_end(start, wire.place, length, end)
    for place in range(wire.place, wire.last_of(last)):
        if not is_sign(wire.row[place]):
            raise BadWire(place, "value")
    return "".join([sign_of(byte) for byte in wire.read_bytes(last)])


def read_packed(wire, item, many, end):
    size = packed_size(many, item.width())
    last = min(wire.place + size, wire.last_of(end))
    things = packed_things(wire.row[wire.place:last], many, item, wire.place)
    if last < wire.place + size:
        raise BadWire(last, "cut")
    wire.place = last
    return things


def read_list(wire, item, end):
    last = read_length(wire, end)
    start = wire.place
    many = wire.read_number(last)
    if many > MOST_THINGS:
        raise BadWire(start, "value")
    if item.width() > 0:
        things = read_packed(wire, item, many, last)
    else:
        things = [read_thing(wire, item, last) for count in range(many)]
    wire.need_over(last, "length")
    return things


# What stands behind a key.
def read_thing(wire, kind, end):
    if kind.shape() == 0:
        return read_plain(wire, kind, end)
    if isinstance(kind, Text):
        return read_text(wire, kind, end)
    if isinstance(kind, List):
        return read_list(wire, kind.item, end)
    return read_body(wire, wire.book.form_of(kind.name), read_length(wire, end))


def read_field(wire, field, start, end):
    thing = read_thing(wire, field.kind, end)
    if is_left_out(field, thing):
        raise BadWire(start, "blank")
    return thing


def read_rest(wire, key, end):
    if key % 4 == 1:
        last = read_length(wire, end)
        return (key // 4, 1, tuple(wire.read_bytes(last)))
    start = wire.place
    wire.read_number(end)
    return (key // 4, 0, tuple(wire.row[start:wire.place]))


def read_record(wire, form, end):
    things = {}
    rests = []
    ahead = 0
    while not wire.is_over(end):
        start = wire.place
        key = read_key(wire, form, ahead, end)
        ahead = key // 4
        field = form.field_at(ahead)
        if field is None:
            rests.append(read_rest(wire, key, end))
        else:
            things[field.name] = read_field(wire, field, start, end)
    need_musts(form, things, wire.place)
    return record_of(form, things, rests)


def read_choice(wire, form, end):
    if wire.is_over(end):
        raise BadWire(end, "choice")
    field = form.field_at(read_key(wire, form, 0, end) // 4)
    thing = read_thing(wire, field.kind, end)
    wire.need_over(end, "choice")
    return (field.name, thing)


def read_body(wire, form, end):
    if form.is_choice():
        return read_choice(wire, form, end)
    return read_record(wire, form, end)


def read(book, row):
    need_row(row)
    return read_body(Wire(book, row), book.head(), None)
