"""The machine: reads a row that comes in pieces, by the tables of a book."""

from formkin.bits import is_number_over, need_row, number_at, number_row
from formkin.errors import BadWire
from formkin.kinds import MOST_THINGS, List, Text, is_sign, sign_of
from formkin.reading import (
    key_fault, most_number, need_musts, packed_size, packed_things, part_end, record_of, thing_of,
)
from formkin.tables import forms_of
from formkin.values import is_left_out


class Step:
    # Something that is being read, from its start on. It stands on what it is a part of, in the machine's steps; when
    # it is over, it hands what it read down to that. It stops where its part does: None where no length tells that.
    def __init__(self, stop, start):
        self.stop = stop
        self.start = start

    # Does what can be done without a byte more, and tells whether something was done.
    def goes_on(self, machine):
        return False

    # Takes a byte and its place.
    def eats(self, machine, byte, at):
        pass

    # Gets what a step above it read, and where that began.
    def gets(self, machine, start, thing):
        pass


class NumberStep(Step):
    def __init__(self, stop, start):
        Step.__init__(self, stop, start)
        self.held = []

    def eats(self, machine, byte, at):
        self.held.append(byte)
        if not is_number_over(self.held):
            return
        try:
            number = number_at(self.held, 0, len(self.held))[0]
        except BadWire as error:
            raise BadWire(self.start + error.place, error.why) from None
        machine.hand_down(number)


class PlainStep(Step):
    def __init__(self, stop, start, kind):
        Step.__init__(self, stop, start)
        self.kind = kind

    def goes_on(self, machine):
        machine.put_number(self.stop)
        return True

    def gets(self, machine, start, thing):
        if thing > most_number(self.kind):
            raise BadWire(start, "value")
        machine.hand_down(thing_of(self.kind, thing))


# What has a length ahead; a kind of None is that of a rest.
class LengthStep(PlainStep):
    def gets(self, machine, start, thing):
        if isinstance(self.kind, Text) and thing > self.kind.most:
            raise BadWire(start, "value")
        machine.put_part(self.kind, part_end(start, machine.place, thing, self.stop))


# The part of a rest: all bytes up to where it stops.
class BytesStep(Step):
    def __init__(self, stop, start):
        Step.__init__(self, stop, start)
        self.held = []

    def goes_on(self, machine):
        if machine.place < self.stop:
            return False
        machine.hand_down(self.whole_thing())
        return True

    def eats(self, machine, byte, at):
        self.held.append(byte)

    def whole_thing(self):
        return tuple(self.held)


class TextStep(BytesStep):
    def eats(self, machine, byte, at):
        if not is_sign(byte):
            raise BadWire(at, "value")
        self.held.append(byte)

    def whole_thing(self):
        return "".join([sign_of(byte) for byte in self.held])


class PackedStep(Step):
    def __init__(self, stop, start, item, many):
        Step.__init__(self, stop, start)
        self.item = item
        self.many = many
        self.held = []

    def eats(self, machine, byte, at):
        self.held.append(byte)
        # Asked at each byte, so that a wrong thing is refused as soon as it is over.
        things = packed_things(self.held, self.many, self.item, self.start)
        if len(self.held) == packed_size(self.many, self.item.width()):
            machine.hand_down(things)


class ListStep(Step):
    def __init__(self, stop, start, item):
        Step.__init__(self, stop, start)
        self.item = item
        # None until it came.
        self.many = None
        self.things = []

    def goes_on(self, machine):
        if self.many is None:
            machine.put_number(self.stop)
        elif len(self.things) < self.many:
            self.put_things(machine)
        elif machine.place == self.stop:
            machine.hand_down(self.things)
        else:
            return False
        return True

    def put_things(self, machine):
        if self.item.width() > 0:
            machine.put_step(PackedStep(self.stop, machine.place, self.item, self.many))
        else:
            machine.put_thing(self.item, self.stop)

    def eats(self, machine, byte, at):
        raise BadWire(at, "length")

    def gets(self, machine, start, thing):
        if self.many is None:
            self.take_many(start, thing)
        elif self.item.width() > 0:
            self.things = thing
        else:
            self.things.append(thing)

    def take_many(self, start, many):
        if many > MOST_THINGS:
            raise BadWire(start, "value")
        self.many = many


class BodyStep(Step):
    def __init__(self, stop, start, form):
        Step.__init__(self, stop, start)
        self.form = form
        # The key of the field that is being read, None between fields, and where that key began.
        self.key = None
        self.key_start = 0
        self.ahead = 0

    def goes_on(self, machine):
        if machine.place != self.stop:
            return False
        machine.hand_down(self.whole_body(machine.place))
        return True

    def eats(self, machine, byte, at):
        self.begin_key(machine, byte, at)

    def begin_key(self, machine, byte, at):
        step = NumberStep(self.stop, at)
        machine.put_step(step)
        step.eats(machine, byte, at)

    def gets(self, machine, start, thing):
        if self.key is None:
            self.take_key(machine, start, thing)
        else:
            self.take_thing(self.form.field_at(self.ahead), thing)
            self.key = None

    def take_key(self, machine, start, key):
        fault = key_fault(self.form, key, self.ahead)
        if fault != "":
            raise BadWire(start, fault)
        self.key = key
        self.key_start = start
        self.ahead = key // 4
        field = self.form.field_at(self.ahead)
        if field is not None:
            machine.put_thing(field.kind, self.stop)
        elif key % 4 == 1:
            machine.put_step(LengthStep(self.stop, machine.place, None))
        else:
            machine.put_number(self.stop)


class RecordStep(BodyStep):
    def __init__(self, stop, start, form):
        BodyStep.__init__(self, stop, start, form)
        self.things = {}
        self.rests = []

    def whole_body(self, place):
        need_musts(self.form, self.things, place)
        return record_of(self.form, self.things, self.rests)

    def take_thing(self, field, thing):
        if field is None:
            self.rests.append(self.rest_of(thing))
        elif is_left_out(field, thing):
            raise BadWire(self.key_start, "blank")
        else:
            self.things[field.name] = thing

    def rest_of(self, thing):
        # A number stands there in one way only, so its bytes are those that came.
        row = thing if self.key % 4 == 1 else tuple(number_row(thing))
        return (self.ahead, self.key % 4, row)


class ChoiceStep(BodyStep):
    def __init__(self, stop, start, form):
        BodyStep.__init__(self, stop, start, form)
        # None until its one field is over.
        self.pair = None

    def whole_body(self, place):
        if self.pair is None:
            raise BadWire(place, "choice")
        return self.pair

    def eats(self, machine, byte, at):
        if self.pair is not None:
            raise BadWire(at, "choice")
        self.begin_key(machine, byte, at)

    def take_thing(self, field, thing):
        self.pair = (field.name, thing)


class Machine:
    def __init__(self, tables):
        forms = forms_of(tables)
        self.forms = dict([(form.name, form) for form in forms])
        # How many bytes came, and what is being read of them, from the whole on.
        self.place = 0
        self.steps = [RecordStep(None, 0, forms[-1])]
        # What was wrong, once something was: from then on all is refused alike.
        self.wrong_place = 0
        self.why = ""

    def take(self, row):
        need_row(row)
        self.need_right()
        try:
            for byte in row:
                self.take_byte(byte)
        except BadWire as error:
            self.refuse(error.place, error.why)
        self.need_right()

    def end(self):
        self.need_right()
        try:
            return self.whole_value()
        except BadWire as error:
            self.refuse(error.place, error.why)
        self.need_right()

    def refuse(self, place, why):
        self.wrong_place = place
        self.why = why

    def need_right(self):
        if self.why != "":
            raise BadWire(self.wrong_place, self.why)

    def take_byte(self, byte):
        at = self.place
        self.place = at + 1
        self.steps[-1].eats(self, byte, at)
        while self.steps[-1].goes_on(self):
            continue
        # What waits for a byte now is amid something; where its part is over it waits in vain.
        if self.steps[-1].stop == self.place:
            raise BadWire(self.place, "cut")

    def whole_value(self):
        if len(self.steps) > 1:
            raise BadWire(self.place, "cut")
        return self.steps[0].whole_body(self.place)

    def put_step(self, step):
        self.steps.append(step)

    def put_number(self, stop):
        self.put_step(NumberStep(stop, self.place))

    # What stands behind a key.
    def put_thing(self, kind, stop):
        if kind.shape() == 0:
            self.put_step(PlainStep(stop, self.place, kind))
        else:
            self.put_step(LengthStep(stop, self.place, kind))

    # Takes the place of the step that read its length.
    def put_part(self, kind, stop):
        self.steps.pop()
        if kind is None:
            self.put_step(BytesStep(stop, self.place))
        elif isinstance(kind, Text):
            self.put_step(TextStep(stop, self.place))
        elif isinstance(kind, List):
            self.put_step(ListStep(stop, self.place, kind.item))
        else:
            self.put_body(self.forms[kind.name], stop)

    def put_body(self, form, stop):
        if form.is_choice():
            self.put_step(ChoiceStep(stop, self.place, form))
        else:
            self.put_step(RecordStep(stop, self.place, form))

    def hand_down(self, thing):
        step = self.steps.pop()
        self.steps[-1].gets(self, step.start, thing)
