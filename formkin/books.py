"""Books of forms: what can be one, what its forms weigh, and books as lines."""

from formkin.bits import MOST_NUMBER
from formkin.errors import BadBook, BadText
from formkin.forms import Choice, Field, Record
from formkin.kinds import MOST_SIGNS, Count, List, Nested, Text, Truth, Upto, Whole
from formkin.words import is_among, is_name, number_of, number_text, truth_of, truth_text, words_of

MOST_FORMS = 8
MOST_FIELDS = 10
MOST_GONE = 10
MOST_FIELD_NUMBER = 200
MOST_WEIGHT = 100


def are_unlike(things):
    return len(set(things)) == len(things)


def is_of_size(form):
    if not isinstance(form.fields, list) or not isinstance(form.gone, list):
        return False
    least = 1 if form.is_choice() else 0
    return is_among(len(form.fields), least, MOST_FIELDS) and len(form.gone) <= MOST_GONE


def are_named_fields(fields):
    if not all([isinstance(field, Field) and is_name(field.name) for field in fields]):
        return False
    return are_unlike([field.name for field in fields])


def are_numbered(form):
    numbers = [field.number for field in form.fields] + form.gone
    if not all([is_among(number, 1, MOST_FIELD_NUMBER) for number in numbers]):
        return False
    return are_unlike(numbers)


def is_thing_kind(kind, ahead):
    if isinstance(kind, Upto):
        return is_among(kind.most, 1, MOST_NUMBER)
    if isinstance(kind, Text):
        return is_among(kind.most, 1, MOST_SIGNS)
    if isinstance(kind, Nested):
        return is_name(kind.name) and kind.name in ahead
    return isinstance(kind, (Truth, Count, Whole))


def is_kind(kind, ahead):
    if isinstance(kind, List):
        return is_thing_kind(kind.item, ahead)
    return is_thing_kind(kind, ahead)


def is_blank(kind, default):
    if isinstance(kind, Nested):
        return default is None
    return kind.suits(default) and default == kind.blank()


def is_default(field, in_choice):
    if not isinstance(field.must, bool):
        return False
    if field.must and in_choice:
        return False
    if is_blank(field.kind, field.default):
        return True
    if field.must or in_choice or not field.kind.is_plain():
        return False
    if isinstance(field.kind, Text) and not is_name(field.default):
        return False
    return field.kind.suits(field.default)


def field_weight(field, weights):
    # A list of forms may be empty, so it weighs no more than what is plain.
    if isinstance(field.kind, Nested):
        return weights[field.kind.name]
    return 1


def form_weight(form, weights):
    if form.is_choice():
        return 1 + min([field_weight(field, weights) for field in form.fields])
    return 1 + sum([field_weight(field, weights) for field in form.fields if field.must])


# The weights are those of the forms ahead, by their names.
def fault_of(form, weights):
    if not isinstance(form, (Record, Choice)):
        return "form"
    if not is_name(form.name) or form.name in weights:
        return "name"
    if not is_of_size(form):
        return "many"
    if not are_named_fields(form.fields):
        return "field"
    if not are_numbered(form):
        return "number"
    if not all([is_kind(field.kind, weights) for field in form.fields]):
        return "kind"
    if not all([is_default(field, form.is_choice()) for field in form.fields]):
        return "default"
    if form_weight(form, weights) > MOST_WEIGHT:
        return "great"
    return ""


def need_forms(forms):
    weights = {}
    for place, form in enumerate(forms):
        fault = fault_of(form, weights)
        if fault != "":
            raise BadBook(place, fault)
        weights[form.name] = form_weight(form, weights)
    if forms[-1].is_choice():
        raise BadBook(len(forms) - 1, "head")
    return weights


class Book:
    def __init__(self, forms):
        if not isinstance(forms, list) or not is_among(len(forms), 1, MOST_FORMS):
            raise BadBook(0, "forms")
        self.forms = list(forms)
        # Kept, since choices of choices would be walked very often otherwise.
        self.weights = need_forms(self.forms)

    def form_of(self, name):
        if not isinstance(name, str):
            return None
        for form in self.forms:
            if form.name == name:
                return form
        return None

    def head(self):
        return self.forms[-1]


def weight(book, form):
    return book.weights[form.name]


def default_word(default):
    if isinstance(default, bool):
        return truth_text(default)
    if isinstance(default, str):
        return default
    return number_text(default)


def field_line(field):
    words = [number_text(field.number), field.name] + field.kind.words()
    if field.must:
        words.append("must")
    elif not is_blank(field.kind, field.default):
        words.extend(["=", default_word(field.default)])
    return " ".join(words)


def form_lines(form):
    sort = "choice" if form.is_choice() else "record"
    lines = [sort + " " + form.name] + [field_line(field) for field in form.fields]
    if len(form.gone) > 0:
        lines.append(" ".join(["gone"] + [number_text(number) for number in form.gone]))
    return lines


def book_lines(book):
    lines = []
    for form in book.forms:
        lines.extend(form_lines(form))
    return lines


def word_at(words, at):
    return words[at] if at < len(words) else ""


# These two tell the kind that is written from a place on, and the place behind it, or None.
def thing_kind_at(words, at):
    word = word_at(words, at)
    behind = word_at(words, at + 1)
    number = number_of(behind)
    if word == "truth":
        return (Truth(), at + 1)
    if word == "count":
        return (Count(), at + 1)
    if word == "whole":
        return (Whole(), at + 1)
    if word == "upto" and number is not None:
        return (Upto(number), at + 2)
    if word == "text" and number is not None:
        return (Text(number), at + 2)
    if word == "text":
        return (Text(), at + 1)
    if word == "form" and is_name(behind):
        return (Nested(behind), at + 2)
    return None


def kind_at(words, at):
    if word_at(words, at) != "list":
        return thing_kind_at(words, at)
    found = thing_kind_at(words, at + 1)
    if found is None:
        return None
    return (List(found[0]), found[1])


def default_of(kind, word):
    if isinstance(kind, Truth):
        return truth_of(word)
    if isinstance(kind, Text):
        return word if is_name(word) else None
    if kind.is_plain():
        return number_of(word)
    return None


def field_in(words, in_choice):
    number = number_of(words[0])
    name = word_at(words, 1)
    found = kind_at(words, 2)
    if number is None or not is_name(name) or found is None:
        return None
    kind = found[0]
    tail = words[found[1]:]
    if len(tail) == 0:
        return Field(number, name, kind)
    if in_choice:
        return None
    if tail == ["must"]:
        return Field(number, name, kind, True)
    default = default_of(kind, tail[1]) if len(tail) == 2 and tail[0] == "=" else None
    if default is None:
        return None
    return Field(number, name, kind, False, default)


class Draft:
    # A form whose lines are still being read.
    def __init__(self, choice, name):
        self.choice = choice
        self.name = name
        self.fields = []
        self.gone = []

    def made(self):
        if self.choice:
            return Choice(self.name, self.fields, self.gone)
        return Record(self.name, self.fields, self.gone)

    # These tell whether the words write something here.
    def takes_words(self, words):
        if words[0] == "gone":
            return self.takes_gone([number_of(word) for word in words[1:]])
        field = field_in(words, self.choice)
        if field is None:
            return False
        self.fields.append(field)
        return True

    def takes_gone(self, numbers):
        if len(numbers) == 0 or None in numbers:
            return False
        self.gone.extend(numbers)
        return True


def takes_line(drafts, line):
    words = words_of(line)
    if words is None:
        return False
    if words[0] != "record" and words[0] != "choice":
        return len(drafts) > 0 and drafts[-1].takes_words(words)
    if len(words) != 2 or not is_name(words[1]):
        return False
    drafts.append(Draft(words[0] == "choice", words[1]))
    return True


def book_of(lines):
    if not isinstance(lines, list):
        raise BadText(0)
    drafts = []
    for place, line in enumerate(lines):
        if not takes_line(drafts, line):
            raise BadText(place)
    return Book([draft.made() for draft in drafts])
