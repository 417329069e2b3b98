"""Notes: values as texts."""

from formkin.bits import SIGNS, row_of, row_text
from formkin.errors import BadText
from formkin.kinds import MOST_THINGS, List, Nested, Text, Truth, is_sign
from formkin.values import RESTS, default_value, is_left_out, is_rest, need_value
from formkin.words import FIGURES, LETTERS, number_of, number_text, truth_of, truth_text

QUOTE = '"'
STROKE = "\\"


def quoted(text):
    # Strokes first, so that those ahead of the quotes are not doubled.
    inner = text.replace(STROKE, STROKE + STROKE).replace(QUOTE, STROKE + QUOTE)
    return QUOTE + inner + QUOTE


def thing_text(book, kind, value):
    if isinstance(kind, Truth):
        return truth_text(value)
    if isinstance(kind, Text):
        return quoted(value)
    if isinstance(kind, List):
        return "[" + ", ".join([thing_text(book, kind.item, thing) for thing in value]) + "]"
    if isinstance(kind, Nested):
        return form_text(book, book.form_of(kind.name), value)
    return number_text(value)


def field_text(book, field, value):
    return field.name + " " + thing_text(book, field.kind, value)


def rest_text(rest):
    return "#" + number_text(rest[0]) + ":" + number_text(rest[1]) + ":" + row_text(rest[2])


def record_text(book, form, value):
    fields = [field for field in form.fields if not is_left_out(field, value[field.name])]
    parts = [field_text(book, field, value[field.name]) for field in fields]
    parts.extend([rest_text(rest) for rest in value.get(RESTS, [])])
    return "{" + ", ".join(parts) + "}"


def choice_text(book, form, value):
    field = form.field_of(value[0])
    return field.name + ":" + thing_text(book, field.kind, value[1])


def form_text(book, form, value):
    if form.is_choice():
        return choice_text(book, form, value)
    return record_text(book, form, value)


def value_text(book, value):
    need_value(book, value)
    return form_text(book, book.head(), value)


class Scan:
    # How far the reading of a text by a book has come.
    def __init__(self, book, text):
        self.book = book
        self.text = text
        self.place = 0

    # The empty text where the text is over.
    def sign(self):
        return self.text[self.place:self.place + 1]

    def skip(self, signs):
        for sign in signs:
            if self.sign() != sign:
                raise BadText(self.place)
            self.place = self.place + 1

    # The longest text of such signs that stands here.
    def run_of(self, signs):
        start = self.place
        while self.sign() != "" and self.sign() in signs:
            self.place = self.place + 1
        return self.text[start:self.place]

    # Whether another part follows; then the reading stands at its first sign.
    def goes_on(self):
        if self.sign() != ",":
            return False
        self.skip(", ")
        return True


def read_truth(scan):
    start = scan.place
    truth = truth_of(scan.run_of(LETTERS))
    if truth is None:
        raise BadText(start)
    return truth


def read_number(scan, kind):
    start = scan.place
    if scan.sign() == "-":
        scan.skip("-")
    scan.run_of(FIGURES)
    number = number_of(scan.text[start:scan.place])
    if not kind.suits(number):
        raise BadText(start)
    return number


# One sign of a text, written with a stroke ahead or not.
def read_sign(scan):
    if scan.sign() == STROKE:
        scan.skip(STROKE)
        if scan.sign() != QUOTE and scan.sign() != STROKE:
            raise BadText(scan.place)
    sign = scan.sign()
    if sign == "" or not is_sign(ord(sign)):
        raise BadText(scan.place)
    scan.skip(sign)
    return sign


def read_text(scan, kind):
    start = scan.place
    scan.skip(QUOTE)
    signs = []
    while scan.sign() != QUOTE:
        signs.append(read_sign(scan))
    scan.skip(QUOTE)
    if len(signs) > kind.most:
        raise BadText(start)
    return "".join(signs)


def read_list(scan, item):
    scan.skip("[")
    things = []
    more = scan.sign() != "]"
    while more:
        if len(things) == MOST_THINGS:
            raise BadText(scan.place)
        things.append(read_thing(scan, item))
        more = scan.goes_on()
    scan.skip("]")
    return things


# The field of the name that stands here, one with a number above the one ahead.
def read_name(scan, form, ahead):
    start = scan.place
    field = form.field_of(scan.run_of(LETTERS))
    if field is None or field.number <= ahead:
        raise BadText(start)
    return field


# Likewise a rest; what it can't be is known when all of it was seen.
def read_rest(scan, form, ahead):
    start = scan.place
    scan.skip("#")
    number = number_of(scan.run_of(FIGURES))
    scan.skip(":")
    shape = number_of(scan.run_of(FIGURES))
    scan.skip(":")
    figures = scan.run_of(SIGNS)
    if len(figures) % 2 == 1:
        raise BadText(start)
    rest = (number, shape, tuple(row_of(figures)))
    if not is_rest(form, rest, ahead):
        raise BadText(start)
    return rest


def read_field_value(scan, field):
    scan.skip(" ")
    start = scan.place
    value = read_thing(scan, field.kind)
    if is_left_out(field, value):
        raise BadText(start)
    return value


def read_rests(scan, form):
    rests = []
    ahead = 0
    more = True
    while more:
        rests.append(read_rest(scan, form, ahead))
        ahead = rests[-1][0]
        more = scan.goes_on()
    return rests


# The value of a record of which these fields stood there, and of which this is the end.
def filled(form, found, place):
    value = {}
    for field in form.fields:
        if field.name in found:
            value[field.name] = found[field.name]
        elif field.must:
            raise BadText(place)
        else:
            value[field.name] = default_value(field)
    return value


def read_record(scan, form):
    scan.skip("{")
    found = {}
    ahead = 0
    more = scan.sign() != "}"
    while more and scan.sign() != "#":
        field = read_name(scan, form, ahead)
        found[field.name] = read_field_value(scan, field)
        ahead = field.number
        more = scan.goes_on()
    rests = read_rests(scan, form) if more else []
    value = filled(form, found, scan.place)
    scan.skip("}")
    if len(rests) > 0:
        value[RESTS] = rests
    return value


def read_choice(scan, form):
    field = read_name(scan, form, 0)
    scan.skip(":")
    return (field.name, read_thing(scan, field.kind))


def read_form(scan, form):
    if form.is_choice():
        return read_choice(scan, form)
    return read_record(scan, form)


def read_thing(scan, kind):
    if isinstance(kind, Truth):
        return read_truth(scan)
    if isinstance(kind, Text):
        return read_text(scan, kind)
    if isinstance(kind, List):
        return read_list(scan, kind.item)
    if isinstance(kind, Nested):
        return read_form(scan, scan.book.form_of(kind.name))
    return read_number(scan, kind)


def value_of(book, text):
    if not isinstance(text, str):
        raise BadText(0)
    scan = Scan(book, text)
    value = read_form(scan, book.head())
    if scan.place < len(text):
        raise BadText(scan.place)
    return value
