"""Values: what is one by a book, the least ones, and how many parts they have."""

from formkin.bits import is_row, number_at
from formkin.books import MOST_FIELD_NUMBER, field_weight
from formkin.errors import BadValue, BadWire
from formkin.kinds import MOST_THINGS, List, Nested
from formkin.words import is_among

# The name under which a record has its rests.
RESTS = ""


def is_number_row(row):
    try:
        return number_at(row, 0, len(row))[1] == len(row)
    except BadWire:
        return False


def is_rest_row(shape, row):
    # A list may be changed by whoever made it, so a rest has a tuple.
    if not isinstance(row, tuple) or not is_row(row):
        return False
    if not is_among(shape, 0, 1):
        return False
    return shape == 1 or is_number_row(row)


# The number ahead is that of the rest ahead, 0 of the first one.
def is_rest(form, rest, ahead):
    if not isinstance(rest, tuple) or len(rest) != 3:
        return False
    number = rest[0]
    if not is_among(number, ahead + 1, MOST_FIELD_NUMBER) or form.field_at(number) is not None:
        return False
    return is_rest_row(rest[1], rest[2])


def are_rests(form, rests):
    if not isinstance(rests, list) or len(rests) == 0:
        return False
    ahead = 0
    for rest in rests:
        if not is_rest(form, rest, ahead):
            return False
        ahead = rest[0]
    return True


def has_names(form, value):
    # Texts first: a thing of another kind may say that it is the same as a name.
    if not isinstance(value, dict) or not all([isinstance(name, str) for name in value]):
        return False
    names = [name for name in value if name != RESTS]
    return sorted(names) == sorted([field.name for field in form.fields])


def need_record(book, form, value, path):
    if not has_names(form, value):
        raise BadValue(path)
    if RESTS in value and not are_rests(form, value[RESTS]):
        raise BadValue(path)
    for field in form.fields:
        thing = value[field.name]
        may_lack = isinstance(field.kind, Nested) and not field.must
        if thing is not None or not may_lack:
            need_thing(book, field.kind, thing, path + [field.name])


def need_choice(book, form, value, path):
    if not isinstance(value, tuple) or len(value) != 2:
        raise BadValue(path)
    field = form.field_of(value[0])
    if field is None:
        raise BadValue(path)
    need_thing(book, field.kind, value[1], path + [field.name])


def need_list(book, item, value, path):
    if not isinstance(value, list) or len(value) > MOST_THINGS:
        raise BadValue(path)
    for place, thing in enumerate(value):
        need_thing(book, item, thing, path + [place])


def need_form(book, form, value, path):
    if form.is_choice():
        need_choice(book, form, value, path)
    else:
        need_record(book, form, value, path)


def need_thing(book, kind, value, path):
    if isinstance(kind, Nested):
        need_form(book, book.form_of(kind.name), value, path)
    elif isinstance(kind, List):
        need_list(book, kind.item, value, path)
    elif not kind.suits(value):
        raise BadValue(path)


def need_value(book, value):
    need_form(book, book.head(), value, [])


# Of a record's field and a value that it may hold.
def is_left_out(field, value):
    return not field.must and value == field.default


def default_value(field):
    # The field's own list is not handed out.
    if isinstance(field.kind, List):
        return []
    return field.default


def least_choice(book, form):
    # Of several that weigh alike min tells the first, and fields stand by rising numbers.
    field = min(form.fields, key=lambda one: field_weight(one, book.weights))
    return (field.name, least_value(book, field.kind))


def least_record(book, form):
    value = {}
    for field in form.fields:
        value[field.name] = least_value(book, field.kind) if field.must else default_value(field)
    return value


def least_of_form(book, form):
    if form.is_choice():
        return least_choice(book, form)
    return least_record(book, form)


def least_value(book, kind):
    if isinstance(kind, Nested):
        return least_of_form(book, book.form_of(kind.name))
    return kind.blank()


def blank_value(book):
    return least_of_form(book, book.head())


# A value of the asker's own: nothing in it that can be changed is another one's.
def copied(value):
    if isinstance(value, dict):
        return dict([(name, copied(value[name])) for name in value])
    if isinstance(value, list):
        return [copied(thing) for thing in value]
    if isinstance(value, tuple):
        return tuple([copied(thing) for thing in value])
    return value


def are_same_things(one, other):
    return len(one) == len(other) and all([are_same(one[at], other[at]) for at in range(len(one))])


# Whether two values are the same by kinds, too: Python takes True for 1.
def are_same(one, other):
    if isinstance(one, dict) and isinstance(other, dict):
        names = sorted(one)
        return names == sorted(other) and all([are_same(one[name], other[name]) for name in names])
    if isinstance(one, list) and isinstance(other, list):
        return are_same_things(one, other)
    if isinstance(one, tuple) and isinstance(other, tuple):
        return are_same_things(one, other)
    return isinstance(one, bool) == isinstance(other, bool) and one == other


def parts_of(value):
    if isinstance(value, list):
        return value
    if isinstance(value, dict):
        return [value[name] for name in value if name != RESTS]
    if isinstance(value, tuple):
        return [value[1]]
    return []


def count_rests(value):
    return len(value[RESTS]) if isinstance(value, dict) and RESTS in value else 0


def count_parts(value):
    return 1 + count_rests(value) + sum([count_parts(part) for part in parts_of(value)])
