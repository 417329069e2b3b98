"""Writing: the row of a value by a book."""

from formkin.bits import folded, number_row, packed
from formkin.kinds import List, Text, Truth, Whole
from formkin.values import RESTS, is_left_out, need_value


# The number by which a truth or a number stands in a row.
def wire_number(kind, value):
    if isinstance(kind, Truth):
        return 1 if value else 0
    if isinstance(kind, Whole):
        return folded(value)
    return value


# What stands behind a key of this shape.
def shaped_row(shape, part):
    if shape == 0:
        return part
    return number_row(len(part)) + part


def key_row(number, shape):
    return number_row(4 * number + shape)


# The bytes of a thing, without a length ahead.
def thing_part(book, kind, value):
    if kind.shape() == 0:
        return number_row(wire_number(kind, value))
    if isinstance(kind, Text):
        return [ord(sign) for sign in value]
    if isinstance(kind, List):
        return list_part(book, kind.item, value)
    return body(book, book.form_of(kind.name), value)


def thing_row(book, kind, value):
    return shaped_row(kind.shape(), thing_part(book, kind, value))


def list_part(book, item, things):
    row = number_row(len(things))
    if item.width() > 0:
        return row + packed([wire_number(item, thing) for thing in things], item.width())
    for thing in things:
        row.extend(thing_row(book, item, thing))
    return row


def field_row(book, field, value):
    return key_row(field.number, field.kind.shape()) + thing_row(book, field.kind, value)


def rest_row(rest):
    return key_row(rest[0], rest[1]) + shaped_row(rest[1], list(rest[2]))


def choice_body(book, form, value):
    return field_row(book, form.field_of(value[0]), value[1])


def record_body(book, form, value):
    pieces = [(rest[0], rest_row(rest)) for rest in value.get(RESTS, [])]
    for field in form.fields:
        thing = value[field.name]
        if not is_left_out(field, thing):
            pieces.append((field.number, field_row(book, field, thing)))
    row = []
    for piece in sorted(pieces, key=lambda one: one[0]):
        row.extend(piece[1])
    return row


def body(book, form, value):
    if form.is_choice():
        return choice_body(book, form, value)
    return record_body(book, form, value)


def written(book, value):
    need_value(book, value)
    return body(book, book.head(), value)
