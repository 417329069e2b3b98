"""What tests of values share: a book of all kinds, a good value of it, and how values are changed and compared."""

from formkin.books import book_of

LINES = [
    "record point",
    "2 x whole must",
    "5 y whole = -4",
    "9 tag text 3",
    "gone 7",
    "choice mark",
    "1 spot form point",
    "3 word text 8",
    "4 bits list truth",
    "6 many list form point",
    "7 level upto 9",
    "record shelf",
    "1 marks list form mark",
    "2 top form mark",
    "3 first form point must",
    "10 names list text 4",
    "11 counts list count",
    "12 wholes list whole",
    "13 smalls list upto 5",
    "14 greats list upto 300",
    "15 truths list truth",
    "record house",
    "1 ready truth = yes",
    "2 size count must",
    "4 depth whole",
    "8 level upto 7 = 3",
    "16 label text = plain",
    "32 shelf form shelf must",
    "64 spare form shelf",
    "100 mark form mark",
    "128 best form mark must",
    "200 points list form point must",
    "gone 3 5",
]


def sample_book():
    return book_of(LINES)


def of_fields(*fields, ahead=()):
    """A book whose head has these fields, with forms ahead of it, as lines."""
    return book_of(list(ahead) + ["record head"] + list(fields))


def point(x=0, y=-4, tag=""):
    return {"x": x, "y": y, "tag": tag}


def good_value():
    """A value of the sample book, a new one each time; its names stand in no order."""
    return {
        "points": [point(1), point(2, 0, "abc")],
        "best": ("level", 0),
        "mark": ("many", [point(-5), {"tag": "~", "x": 6, "": [(1, 0, (0,)), (7, 1, ())], "y": 7}]),
        "spare": None,
        "shelf": {
            "marks": [("word", ""), ("spot", point(8)), ("bits", [True, False]), ("bits", [])],
            "top": None,
            "first": {"x": 0, "y": 0, "tag": "\"\\ ", "": [(200, 0, (255, 1))]},
            "names": ["", "abcd", "{,}:"],
            "counts": [0, 1, 2 ** 256 - 1],
            "wholes": [-2 ** 255, -1, 0, 2 ** 255 - 1],
            "smalls": [0, 5],
            "greats": [0, 300],
            "truths": [False, True, True],
        },
        "label": "",
        "level": 7,
        "depth": -1,
        "size": 0,
        "ready": False,
        "": [(3, 0, (172, 2)), (5, 1, (0, 255, 37)), (199, 1, ())],
    }


def thing_at(value, path):
    for step in path:
        value = value[1] if isinstance(value, tuple) else value[step]
    return value


def exchanged(value, path, thing):
    """The value with another thing where the path leads."""
    if not path:
        return thing
    inner = exchanged(thing_at(value, path[:1]), path[1:], thing)
    if isinstance(value, tuple):
        return (value[0], inner)
    if isinstance(value, list):
        return value[:path[0]] + [inner] + value[path[0] + 1:]
    return {name: inner if name == path[0] else part for name, part in value.items()}


def turned(value):
    """The same value with the names of each record in another order."""
    if isinstance(value, dict):
        return {name: value[name] if name == "" else turned(value[name]) for name in reversed(list(value))}
    if isinstance(value, list):
        return [turned(thing) for thing in value]
    if isinstance(value, tuple) and len(value) == 2:
        return (value[0], turned(value[1]))
    return value


def shown(thing):
    """A text that is the same for the same values alone, by kinds; the order of names in dicts tells nothing."""
    if isinstance(thing, dict):
        return "{" + ", ".join(sorted(f"{name!r}: {shown(part)}" for name, part in thing.items())) + "}"
    if type(thing) in (list, tuple):
        return f"{type(thing).__name__}({', '.join(shown(part) for part in thing)})"
    return f"{type(thing).__name__} {thing!r}"


def ruin(thing):
    """Changes a value through and through, as far as it can be changed."""
    if isinstance(thing, dict):
        for part in thing.values():
            ruin(part)
        thing.clear()
        thing["ruined"] = True
    elif isinstance(thing, list):
        for part in thing:
            ruin(part)
        thing.append("ruined")
    elif isinstance(thing, tuple):
        for part in thing:
            ruin(part)
