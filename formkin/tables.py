"""The tables of a book: plain rows that tell its forms, and rows as lines."""

from formkin.books import MOST_FIELD_NUMBER, MOST_FIELDS, MOST_FORMS, Draft, is_default, is_kind
from formkin.errors import BadText
from formkin.forms import Field
from formkin.kinds import Count, List, Nested, Text, Truth, Upto, Whole
from formkin.words import is_among, is_name, number_of, number_text, words_of

CODES = {"truth": 0, "count": 1, "whole": 2, "upto": 3, "text": 4, "form": 5}
LIST_CODE = 10

FORM_PARTS = 4
FIELD_PARTS = 7

# How the empty text is written, since each part of a line has a sign.
EMPTY = "-"


class Tables:
    def __init__(self, rows):
        self.rows = list(rows)


def code_of(kind):
    if isinstance(kind, List):
        return LIST_CODE + code_of(kind.item)
    return CODES[kind.word()]


# The places are those of the forms ahead, by their names.
def bound_of(kind, places):
    if isinstance(kind, List):
        return bound_of(kind.item, places)
    if isinstance(kind, Nested):
        return places[kind.name]
    if isinstance(kind, (Upto, Text)):
        return kind.most
    return 0


# Must fields and those of choices have blank defaults, so these need no looking at.
def default_part(field):
    if not field.kind.is_plain():
        return 0
    if isinstance(field.kind, Truth):
        return 1 if field.default else 0
    return field.default


def table_row(field, places):
    must = 1 if field.must else 0
    code = code_of(field.kind)
    return ("field", field.number, field.name, code, bound_of(field.kind, places), must, default_part(field))


def table_rows(form, places):
    sort = 1 if form.is_choice() else 0
    return [("form", form.name, sort, len(form.fields))] + [table_row(field, places) for field in form.fields]


def compiled(book):
    rows = []
    places = {}
    for place, form in enumerate(book.forms):
        rows.extend(table_rows(form, places))
        places[form.name] = place
    return Tables(rows)


# None where no kind has this code. Whether one may have this bound isn't looked at, but for a form's place.
def thing_kind(code, bound, places):
    if code == CODES["upto"]:
        return Upto(bound)
    if code == CODES["text"]:
        return Text(bound)
    if code == CODES["form"]:
        return Nested(list(places)[bound]) if is_among(bound, 0, len(places) - 1) else None
    if code == CODES["truth"]:
        return Truth()
    if code == CODES["count"]:
        return Count()
    if code == CODES["whole"]:
        return Whole()
    return None


def kind_of(code, bound, places):
    if not is_among(code, LIST_CODE, LIST_CODE + len(CODES) - 1):
        return thing_kind(code, bound, places)
    return List(thing_kind(code - LIST_CODE, bound, places))


def row_default(kind, part):
    if isinstance(kind, Truth):
        return part == 1
    return part if kind.is_plain() else None


# The field that a row tells; None where there is no such kind.
def field_of_row(row, places):
    kind = kind_of(row[3], row[4], places)
    if kind is None:
        return None
    return Field(row[1], row[2], kind, row[5] == 1, row_default(kind, row[6]))


# The forms of tables that may be: records and choices, in order.
def forms_of(tables):
    drafts = []
    places = {}
    for row in tables.rows:
        if row[0] == "form":
            drafts.append(Draft(row[2] == 1, row[1]))
            places[row[1]] = len(places)
        else:
            drafts[-1].fields.append(field_of_row(row, places))
    return [draft.made() for draft in drafts]


def part_text(part):
    if isinstance(part, str):
        return EMPTY if part == "" else part
    return number_text(part)


def part_of(word):
    if word == EMPTY:
        return ""
    number = number_of(word)
    return word if number is None else number


def row_line(row):
    return " ".join([part_text(part) for part in row])


def tables_text(tables):
    return [row_line(row) for row in tables.rows]


class TablesDraft:
    # Tables whose lines are still being read.
    def __init__(self):
        self.rows = []
        # Those of the forms ahead of the one whose fields come.
        self.places = {}
        self.draft = None
        self.lacking = 0

    def takes_row(self, row):
        if self.lacking == 0:
            return self.takes_form(row)
        return self.takes_field(row)

    def takes_form(self, row):
        self.close_form()
        if len(row) != FORM_PARTS or row[0] != "form" or not is_name(row[1]) or row[1] in self.places:
            return False
        # A choice has a field at least, and its sort is just 1.
        if not is_among(row[2], 0, 1) or not is_among(row[3], row[2], MOST_FIELDS):
            return False
        if len(self.places) == MOST_FORMS:
            return False
        self.draft = Draft(row[2] == 1, row[1])
        self.lacking = row[3]
        self.rows.append(row)
        return True

    def close_form(self):
        if self.draft is not None:
            self.places[self.draft.name] = len(self.places)

    def takes_field(self, row):
        field = field_of_row(row, self.places) if len(row) == FIELD_PARTS else None
        if field is None or not self.may_stand(field):
            return False
        # So the bound is 0 where a kind has none, must is 0 or 1, and no default stands where none may be.
        if row != table_row(field, self.places):
            return False
        self.draft.fields.append(field)
        self.lacking = self.lacking - 1
        self.rows.append(row)
        return True

    def may_stand(self, field):
        ahead = self.draft.fields
        least = 1 if len(ahead) == 0 else ahead[-1].number + 1
        if not is_among(field.number, least, MOST_FIELD_NUMBER):
            return False
        if not is_name(field.name) or field.name in [one.name for one in ahead]:
            return False
        return is_kind(field.kind, self.places) and is_default(field, self.draft.choice)

    def is_whole_book(self):
        return self.draft is not None and self.lacking == 0 and not self.draft.choice


def row_in(line):
    words = words_of(line)
    return () if words is None else tuple([part_of(word) for word in words])


def tables_of(lines):
    if not isinstance(lines, list):
        raise BadText(0)
    draft = TablesDraft()
    for place, line in enumerate(lines):
        if not draft.takes_row(row_in(line)):
            raise BadText(place)
    if not draft.is_whole_book():
        raise BadText(len(lines))
    return Tables(draft.rows)
