"""What a clash must be like, told by the document alone: looked at from the books, its path and its word."""

from formkin.bits import MOST_NUMBER
from formkin.judge import goes_wrong
from formkin.kinds import List, Nested
from formkin.values import least_value, need_value
from samples import shown, thing_at

WORDS = ("kind", "must", "default", "choice")


def has_rests(value):
    if isinstance(value, dict):
        return "" in value or any(has_rests(part) for part in value.values())
    return isinstance(value, (list, tuple)) and any(has_rests(part) for part in value)


class Spot:
    """Where a path has led to: the kinds there, and the fields, None where no field is named last."""

    def __init__(self, kind, twin, field=None, mate=None):
        self.kind = kind
        self.twin = twin
        self.field = field
        self.mate = mate


def next_spot(one, other, spot, step):
    if isinstance(spot.kind, List):
        assert isinstance(spot.twin, List), "within a list that the other one hasn't"
        return Spot(spot.kind.item, spot.twin.item)
    form, twin = one.form_of(spot.kind.name), other.form_of(spot.twin.name)
    assert form.is_choice() == twin.is_choice(), "within forms of unlike sorts"
    field = form.field_of(step)
    mate = twin.field_at(field.number)
    return Spot(field.kind, mate.kind if mate else None, field, mate)


def least_beside(one, other, spot, value, path):
    """Whether nothing but what lies on the path is more than the least."""
    if not path:
        return True
    inner = next_spot(one, other, spot, path[0])
    if isinstance(spot.kind, List):
        if len(value) != path[0] + 1 or len(value) > 2:
            return False
        unlike = spot.kind.item.shape() == 0 and spot.kind.item.width() != spot.twin.item.width()
        if len(value) == 2 and not (unlike and shown(value[0]) == shown(spot.kind.item.blank())):
            return False
    elif isinstance(value, dict):
        for field in one.form_of(spot.kind.name).fields:
            least = least_value(one, field.kind) if field.must else field.default
            if field.name != path[0] and shown(value[field.name]) != shown(least):
                return False
    return least_beside(one, other, inner, thing_at(value, path[:1]), path[1:])


def read_well(kind, twin):
    """Whether a plain kind goes well with another one, by the words of both."""
    words, others = kind.words(), twin.words()
    if words[0] in ("truth", "whole"):
        return words == others
    if words[0] == "text":
        return others[0] == "text" and twin.most >= kind.most
    if others[0] == "upto":
        return twin.most >= (MOST_NUMBER if words[0] == "count" else kind.most)
    return others[0] == "count"


def is_of_kind(spot, one, other, thing):
    """Whether the kinds where the path ends don't go well, of things of a list also how they stand."""
    kind, twin = spot.kind, spot.twin
    if isinstance(kind, Nested) and isinstance(twin, Nested):
        return one.form_of(kind.name).is_choice() != other.form_of(twin.name).is_choice()
    if isinstance(kind, (List, Nested)) or isinstance(twin, (List, Nested)):
        return not (isinstance(kind, List) and isinstance(twin, List))
    return not read_well(kind, twin) or (spot.field is None and kind.width() != twin.width())


def is_of_must(spot, one, other, thing):
    if spot.mate is not None and spot.mate.must and not spot.field.must:
        return shown(thing) == shown(spot.field.default)
    if not isinstance(spot.kind, Nested) or not isinstance(spot.twin, Nested) or thing is None:
        return False
    form, twin = one.form_of(spot.kind.name), other.form_of(spot.twin.name)
    return any(field.must and form.field_at(field.number) is None for field in twin.fields)


def is_of_default(spot, one, other, thing):
    field, mate = spot.field, spot.mate
    if field is None or mate is None or mate.must:
        return False
    if field.must:
        return not isinstance(field.kind, Nested) and field.kind.suits(mate.default) and (
            shown(thing) == shown(mate.default))
    return shown(field.default) != shown(mate.default) and shown(thing) == shown(field.default)


def is_of_choice(spot, one, other, thing):
    return spot.field is not None and spot.mate is None


def fault_of_clash(one, other, clash):
    """The first thing that is wrong with a clash, "" where nothing is."""
    if type(clash.path) is not list or clash.why not in WORDS:
        return "path or word"
    need_value(one, clash.value)
    if has_rests(clash.value):
        return "rests"
    if goes_wrong(one, other, clash.value) == "":
        return "doesn't go wrong"
    head = Spot(Nested(one.head().name), Nested(other.head().name))
    if not least_beside(one, other, head, clash.value, clash.path):
        return "more than the least"
    spot = head
    for step in clash.path:
        spot = next_spot(one, other, spot, step)
    look = {"kind": is_of_kind, "must": is_of_must, "default": is_of_default, "choice": is_of_choice}[clash.why]
    if not look(spot, one, other, thing_at(clash.value, clash.path)):
        return "the word isn't so where the path ends"
    return ""
