"""Books, values and rows by chance, the same ones for the same seed."""

from formkin.bits import MOST_NUMBER
from formkin.books import book_of

NUMBERS = list(range(1, 10)) + [31, 32, 200]
PLAIN = [
    "truth", "count", "whole", "upto 1", "upto 2", "upto 3", "upto 7", "upto 100", "upto 200", "upto 255", "upto 256",
    "upto 300", f"upto {MOST_NUMBER}", "text", "text 1", "text 2", "text 5", "text 12",
]
DEFAULTS = {
    "truth": ["no", "yes"], "count": ["0", "1", "2", "300"], "whole": ["0", "1", "-1", "2", "64"],
    "upto": ["0", "1", "2", "7"], "text": ["a", "aa", "abcde"],
}


def value_by_chance(source, book, form, rests=True):
    if form.is_choice():
        field = source.choice(form.fields)
        return (field.name, thing_by_chance(source, book, field.kind, rests))
    value = {}
    for field in source.sample(form.fields, len(form.fields)):
        left_out = not field.must and source.random() < 0.5
        thing = field.default if left_out else thing_by_chance(source, book, field.kind, rests)
        value[field.name] = list(thing) if isinstance(thing, list) else thing
    numbers = [number for number in range(1, 201) if form.field_at(number) is None]
    many = source.choice([0, 0, 1, 3]) if rests else 0
    kept = [rest_by_chance(source, number) for number in sorted(source.sample(numbers, many))]
    return {"": kept, **value} if kept else value


def rest_by_chance(source, number):
    if source.random() < 0.5:
        return (number, 0, tuple(source.randrange(128, 256) for step in range(source.randrange(4))) + (1,))
    return (number, 1, tuple(source.randrange(256) for step in range(source.randrange(4))))


def thing_by_chance(source, book, kind, rests=True):
    word = kind.word()
    if word == "list":
        return [thing_by_chance(source, book, kind.item, rests) for step in range(source.choice([0, 1, 2, 5]))]
    if word == "form":
        return value_by_chance(source, book, book.form_of(kind.name), rests)
    if word == "truth":
        return source.random() < 0.5
    if word == "text":
        many = source.choice([0, 1, kind.most, source.randint(0, kind.most)])
        return "".join(source.choice("aab\"\\ {}[],:#") for step in range(many))
    bounds = {"count": (0, MOST_NUMBER), "whole": (-2 ** 255, 2 ** 255 - 1)}
    least, most = bounds[word] if word in bounds else (0, kind.most)
    return max(least, min(most, source.choice([0, 1, 2, least, most, source.randint(least, most), -1])))


def kind_by_chance(source, ahead):
    kind = source.choice(PLAIN)
    if ahead and source.random() < 0.4:
        kind = "form " + source.choice(ahead)
    return "list " + kind if source.random() < 0.3 else kind


def field_by_chance(source, number, name, in_choice, ahead):
    kind = kind_by_chance(source, ahead)
    word = kind.split()[0]
    end = ""
    if not in_choice and source.random() < 0.3:
        end = " must"
    elif not in_choice and word in DEFAULTS and source.random() < 0.5:
        end = " = " + source.choice(DEFAULTS[word])
    return f"{number} {name} {kind}{end}"


def lines_by_chance(source):
    """Lines of a book, which may still be none by its weight or its defaults."""
    lines = []
    ahead = []
    many = source.randint(1, 4)
    for place in range(many):
        in_choice = place < many - 1 and source.random() < 0.5
        lines.append(f"{'choice' if in_choice else 'record'} {'pqrs'[place]}")
        numbers = source.sample(NUMBERS, source.randint(1 if in_choice else 0, 4))
        for name, number in zip("abcd", numbers):
            lines.append(field_by_chance(source, number, name, in_choice, ahead))
        ahead.append("pqrs"[place])
    return lines


def changed_lines(source, lines):
    """The lines with a few of their fields exchanged, left out or put to them."""
    changed = []
    ahead = []
    in_choice = False
    for line in lines:
        words = line.split()
        if words[0] in ("record", "choice"):
            in_choice = words[0] == "choice"
            if source.random() < 0.04 and words[1] != lines_head(lines):
                in_choice = not in_choice
                line = f"{'choice' if in_choice else 'record'} {words[1]}"
            changed.append(line)
            ahead.append(words[1])
            if source.random() < 0.1:
                changed.append(field_by_chance(source, 10 + len(changed), "z", in_choice, ahead[:-1]))
        elif source.random() < 0.15:
            changed.append(field_by_chance(source, words[0], words[1], in_choice, ahead[:-1]))
        elif source.random() < 0.93:
            changed.append(line)
    return changed


def lines_head(lines):
    return [line.split()[1] for line in lines if line.startswith(("record ", "choice "))][-1]


def good_book(source, make, *given):
    """The book of the first such lines that write one."""
    while True:
        try:
            return book_of(make(source, *given))
        except ValueError:
            continue


def book_by_chance(source):
    return good_book(source, lines_by_chance)


def changed_row(source, row):
    """The row with a byte or a few changed, left out or put in."""
    row = list(row)
    for step in range(source.choice([1, 1, 1, 2, 4])):
        place = source.randrange(len(row) + 1)
        byte = source.choice([0, 1, 2, 4, 5, 8, 9, 127, 128, 255, source.randrange(256), source.randrange(256)])
        if source.random() < 0.4:
            row[place:place + 1] = [byte]
        elif source.random() < 0.5:
            row[place:place] = [byte]
        else:
            row[place:place + 1] = []
    return row
