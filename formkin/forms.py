"""Fields, and forms of them: records and choices. By themselves they refuse nothing; a book does."""

from formkin.kinds import Kind
from formkin.words import is_whole


def own_default(kind, default):
    if default is None and isinstance(kind, Kind):
        return kind.blank()
    if isinstance(default, list):
        return list(default)
    return default


class Field:
    def __init__(self, number, name, kind, must=False, default=None):
        self.number = number
        self.name = name
        self.kind = kind
        self.must = must
        self.default = own_default(kind, default)


def own_fields(fields):
    # None stands for what is no list or tuple, so that a book can refuse it.
    if not isinstance(fields, (list, tuple)):
        return None
    # What has no number can't be put in order, and need not be: no book takes it.
    if all([isinstance(field, Field) and is_whole(field.number) for field in fields]):
        return sorted(fields, key=lambda field: field.number)
    return list(fields)


def own_numbers(numbers):
    if numbers is None:
        return []
    if not isinstance(numbers, (list, tuple)):
        return None
    if all([is_whole(number) for number in numbers]):
        return sorted(numbers)
    return list(numbers)


class Form:
    def __init__(self, name, fields, gone=None):
        self.name = name
        self.fields = own_fields(fields)
        self.gone = own_numbers(gone)

    def is_choice(self):
        return False

    def field_at(self, number):
        if not is_whole(number):
            return None
        for field in self.true_fields():
            if is_whole(field.number) and field.number == number:
                return field
        return None

    def field_of(self, name):
        if not isinstance(name, str):
            return None
        for field in self.true_fields():
            if isinstance(field.name, str) and field.name == name:
                return field
        return None

    # A form by itself may have been made of anything.
    def true_fields(self):
        if self.fields is None:
            return []
        return [field for field in self.fields if isinstance(field, Field)]


class Record(Form):
    pass


class Choice(Form):
    def is_choice(self):
        return True
