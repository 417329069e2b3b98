"""The judge: whether what one book writes is read by another one as it should be, and a value that goes wrong."""

from formkin.errors import BadWire
from formkin.kinds import Count, List, Nested, Text, Truth, Upto, Whole
from formkin.reading import most_number, read
from formkin.values import (
    RESTS, are_same, copied, default_value, is_left_out, least_of_form, least_record, least_value, need_value,
)
from formkin.writing import thing_part, written


class Clash:
    def __init__(self, path, why, value):
        self.path = list(path)
        self.why = why
        self.value = copied(value)


# Of a field of the one that the other one hasn't.
def wanted_rest(one, field, thing):
    return (field.number, field.kind.shape(), tuple(thing_part(one, field.kind, thing)))


def wanted_record(one, other, form, twin, value):
    should = {}
    for field in twin.fields:
        source = form.field_at(field.number)
        if source is None:
            should[field.name] = default_value(field)
        else:
            should[field.name] = wanted_thing(one, other, source.kind, field.kind, value[source.name])
    lacking = [field for field in form.fields if twin.field_at(field.number) is None]
    rests = [wanted_rest(one, field, value[field.name]) for field in lacking
             if not is_left_out(field, value[field.name])]
    if len(rests) > 0:
        should[RESTS] = rests
    return should


def wanted_choice(one, other, form, twin, value):
    source = form.field_of(value[0])
    field = twin.field_at(source.number)
    if field is None:
        return copied(value)
    return (field.name, wanted_thing(one, other, source.kind, field.kind, value[1]))


def wanted_form(one, other, form, twin, value):
    if form.is_choice() != twin.is_choice():
        return copied(value)
    if form.is_choice():
        return wanted_choice(one, other, form, twin, value)
    return wanted_record(one, other, form, twin, value)


def wanted_thing(one, other, kind, twin, thing):
    if thing is None:
        return None
    if isinstance(kind, List) and isinstance(twin, List):
        return [wanted_thing(one, other, kind.item, twin.item, part) for part in thing]
    if isinstance(kind, Nested) and isinstance(twin, Nested):
        return wanted_form(one, other, one.form_of(kind.name), other.form_of(twin.name), thing)
    return copied(thing)


def wanted(one, other, value):
    need_value(one, value)
    return wanted_record(one, other, one.head(), other.head(), value)


def goes_wrong(one, other, value):
    row = written(one, value)
    try:
        came = read(other, row)
    except BadWire:
        return "refused"
    if not are_same(came, wanted(one, other, value)):
        return "other"
    if written(other, came) != row:
        return "back"
    return ""


def is_number_kind(kind):
    return isinstance(kind, (Count, Whole, Upto))


# Of plain kinds.
def go_well(kind, twin):
    if isinstance(kind, Truth):
        return isinstance(twin, Truth)
    if isinstance(kind, Text):
        return isinstance(twin, Text) and twin.most >= kind.most
    if isinstance(kind, Whole) or isinstance(twin, Whole):
        return isinstance(kind, Whole) and isinstance(twin, Whole)
    return is_number_kind(kind) and is_number_kind(twin) and most_number(twin) >= most_number(kind)


# A number that lies unlike as a whole one and as a count, and isn't left out.
def unlike_number(default):
    return 2 if default == 1 else 1


# A thing of a kind that doesn't go well with its twin; it goes wrong wherever it stands.
def wrong_thing(one, kind, twin, default):
    if isinstance(kind, List):
        return [least_value(one, kind.item)]
    if isinstance(kind, Text) and isinstance(twin, Text):
        return "a" * kind.most
    if not is_number_kind(kind) or not is_number_kind(twin):
        return least_value(one, kind)
    if isinstance(kind, Whole) or isinstance(twin, Whole):
        return unlike_number(default)
    return most_number(twin) + 1


def clash_of_lists(one, other, item, twin, seen):
    found = clash_of_kinds(one, other, item, twin, None, seen)
    if found is not None:
        return Clash([0] + found.path, found.why, [found.value])
    if item.width() == twin.width():
        return None
    # Of things that go well uptos alone may stand unlike; a single one might lie in the same bits.
    return Clash([1], "kind", [item.blank(), item.most])


# The default is what a field of this kind leaves out, None where nothing is.
def clash_of_kinds(one, other, kind, twin, default, seen):
    if isinstance(kind, List) and isinstance(twin, List):
        return clash_of_lists(one, other, kind.item, twin.item, seen)
    if isinstance(kind, Nested) and isinstance(twin, Nested):
        return clash_of_forms(one, other, one.form_of(kind.name), other.form_of(twin.name), seen)
    if go_well(kind, twin):
        return None
    return Clash([], "kind", wrong_thing(one, kind, twin, default))


# Of an upto 1 that leaves 1 out only 0 is ever written, and a whole reads that as it is.
def is_nought_by_whole(field, mate):
    if not isinstance(field.kind, Upto) or not isinstance(mate.kind, Whole):
        return False
    return field.kind.most == 1 and field.default == 1


def is_value_of(kind, thing):
    # What stands for a form that is left out is none of its values.
    return not isinstance(kind, Nested) and kind.suits(thing)


def clash_of_fields(one, other, field, mate, seen):
    if not is_nought_by_whole(field, mate):
        found = clash_of_kinds(one, other, field.kind, mate.kind, field.default, seen)
        if found is not None:
            return found
    if mate.must and not field.must:
        return Clash([], "must", default_value(field))
    if field.must and not mate.must and is_value_of(field.kind, mate.default):
        return Clash([], "default", default_value(mate))
    if field.must == mate.must and not are_same(field.default, mate.default):
        return Clash([], "default", default_value(field))
    return None


def clash_of_records(one, other, form, twin, seen):
    value = least_record(one, form)
    for mate in twin.fields:
        if mate.must and form.field_at(mate.number) is None:
            return Clash([], "must", value)
    for field in form.fields:
        mate = twin.field_at(field.number)
        found = None if mate is None else clash_of_fields(one, other, field, mate, seen)
        if found is not None:
            value[field.name] = found.value
            return Clash([field.name] + found.path, found.why, value)
    return None


def clash_of_choices(one, other, form, twin, seen):
    for field in form.fields:
        mate = twin.field_at(field.number)
        if mate is None:
            return Clash([field.name], "choice", (field.name, least_value(one, field.kind)))
        found = clash_of_kinds(one, other, field.kind, mate.kind, None, seen)
        if found is not None:
            return Clash([field.name] + found.path, found.why, (field.name, found.value))
    return None


# The pairs seen are those that went well so far: at the first clash nothing more is looked at.
def clash_of_forms(one, other, form, twin, seen):
    if (form.name, twin.name) in seen:
        return None
    seen[(form.name, twin.name)] = True
    if form.is_choice() != twin.is_choice():
        return Clash([], "kind", least_of_form(one, form))
    if form.is_choice():
        return clash_of_choices(one, other, form, twin, seen)
    return clash_of_records(one, other, form, twin, seen)


def judged(one, other):
    return clash_of_forms(one, other, one.head(), other.head(), {})
