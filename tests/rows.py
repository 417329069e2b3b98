"""Hand-made rows that are good, with their books and values."""

from formkin.bits import MOST_NUMBER
from samples import good_value, of_fields, sample_book

POINT = ["record point", "1 x whole must", "2 y count"]
MARK = POINT + [
    "choice mark", "3 spot form point", "4 word text", "5 level upto 9", "6 ready truth", "7 bits list truth",
]
GREAT = [255] * 36 + [15]
SIGNS = "".join(chr(number) for number in range(32, 127) if number != 37)

PLAIN = [
    ("truth", True, [4, 1]), ("truth must", False, [4, 0]), ("truth must", True, [4, 1]),
    ("truth = yes", False, [4, 0]), ("count", 1, [4, 1]), ("count", 127, [4, 127]), ("count", 128, [4, 128, 1]),
    ("count", 300, [4, 172, 2]), ("count must", 0, [4, 0]), ("count = 5", 0, [4, 0]),
    ("count", MOST_NUMBER, [4] + GREAT), ("whole", -1, [4, 1]), ("whole", 1, [4, 2]), ("whole", -64, [4, 127]),
    ("whole", 64, [4, 128, 1]), ("whole must", 0, [4, 0]), ("whole = -3", 0, [4, 0]),
    ("whole", -2 ** 255, [4] + GREAT), ("whole", 2 ** 255 - 1, [4, 254] + GREAT[1:]),
    ("upto 9", 9, [4, 9]), ("upto 9", 1, [4, 1]), ("upto 300", 200, [4, 200, 1]), ("upto 1 must", 0, [4, 0]),
    (f"upto {MOST_NUMBER}", MOST_NUMBER, [4] + GREAT),
    ("text", "a", [5, 1, 97]), ("text", " ~\"\\", [5, 4, 32, 126, 34, 92]), ("text must", "", [5, 0]),
    ("text = a", "", [5, 0]), ("text 3", "abc", [5, 3, 97, 98, 99]),
    ("text", "x" * 100, [5, 100] + [120] * 100), ("text", SIGNS, [5, 94] + list(range(32, 37)) + list(range(38, 127))),
]

PACKED = [
    ("truth", [True], [1, 1]), ("truth", [False], [1, 0]), ("truth", [False, True], [2, 2]),
    ("truth", [True] * 8, [8, 255]), ("truth", [False] * 8 + [True], [9, 0, 1]),
    ("truth", [True] * 20, [20, 255, 255, 15]), ("upto 1", [1, 0, 1], [3, 5]),
    ("upto 2", [2, 1, 0, 2], [4, 134]),
    ("upto 3", [3, 1], [2, 7]), ("upto 5", [0, 5], [2, 40]), ("upto 7", [1, 2, 3], [3, 209, 0]),
    ("upto 7", [7] * 3, [3, 255, 1]), ("upto 8", [8, 1], [2, 24]),
    ("upto 255", [255, 0, 128], [3, 255, 0, 128]),
    ("upto 128", [128, 127], [2, 128, 127]), ("upto 127", [127, 1], [2, 255, 0]),
    ("upto 100", [1, 1], [2, 129, 0]),
]

NOT_PACKED = [
    ("count", [0], [1, 0]), ("count", [0, 1, 300], [3, 0, 1, 172, 2]), ("count", [MOST_NUMBER], [1] + GREAT),
    ("whole", [0, -1, 1, -300], [4, 0, 1, 2, 215, 4]), ("upto 256", [0, 1, 256], [3, 0, 1, 128, 2]),
    ("upto 300", [255, 300], [2, 255, 1, 172, 2]), ("text", ["", "a", "bc"], [3, 0, 1, 97, 2, 98, 99]),
    ("text 1", [""], [1, 0]), ("count", [5] * 20, [20] + [5] * 20),
    ("form point", [{"x": 0, "y": 0}, {"x": 1, "y": 9}], [2, 2, 4, 0, 4, 4, 2, 8, 9]),
    ("form none", [{}, {}, {}], [3, 0, 0, 0]),
    ("form mark", [("spot", {"x": -1, "y": 0}), ("word", ""), ("bits", [True])],
     [3, 4, 13, 2, 4, 1, 2, 17, 0, 4, 29, 2, 1, 1]),
]


def letters(text):
    return [ord(sign) for sign in text]


# Each of these tells a list of (book, value, row).

def plain_rows():
    return [(of_fields("1 a " + kind), {"a": thing}, row) for kind, thing, row in PLAIN]


def list_rows():
    ahead = MARK + ["record none"]
    return [
        (of_fields(f"1 a list {kind}{end}", ahead=ahead), {"a": things}, [5, len(part)] + part)
        for kind, things, part in PACKED + NOT_PACKED for end in ("", " must")
    ]


def empty_list_rows():
    return [
        (of_fields(f"1 a list {kind} must", ahead=POINT), {"a": []}, [5, 1, 0])
        for kind in ("truth", "count", "whole", "upto 5", "upto 300", "text", "form point")
    ]


def key_rows():
    rows = []
    for number, key in [(1, [4]), (2, [8]), (31, [124]), (32, [128, 1]), (100, [144, 3]), (200, [160, 6])]:
        other = [key[0] + 1] + key[1:]
        rows += [
            (of_fields(f"{number} a count"), {"a": 7}, key + [7]),
            (of_fields(f"{number} a text"), {"a": "a"}, other + [1, 97]),
            (of_fields(f"{number} a list count"), {"a": [9]}, other + [2, 1, 9]),
            (of_fields(), {"": [(number, 0, (7,))]}, key + [7]),
            (of_fields(), {"": [(number, 1, (7,))]}, other + [1, 7]),
        ]
    return rows


def left_out_rows():
    ahead = ["record one", "choice two", "1 a truth"]
    left = of_fields(
        "1 a truth", "2 b count = 5", "3 c whole = -1", "4 d upto 5 = 5", "5 e text = abc", "6 f list count",
        "7 g form one", "8 h form two", "9 i list form one", "10 j truth = yes", ahead=ahead)
    value = {
        "a": False, "b": 5, "c": -1, "d": 5, "e": "abc", "f": [], "g": None, "h": None, "i": [], "j": True,
    }
    rows = [(of_fields(), {}, []), (left, value, [])]
    for name, thing, row in [
        ("a", True, [4, 1]), ("b", 0, [8, 0]), ("b", 1, [8, 1]), ("c", 1, [12, 2]), ("c", 0, [12, 0]),
        ("d", 0, [16, 0]), ("e", "", [21, 0]), ("e", "abd", [21, 3, 97, 98, 100]), ("f", [0], [25, 2, 1, 0]),
        ("g", {}, [29, 0]), ("h", ("a", False), [33, 2, 4, 0]), ("i", [{}], [37, 2, 1, 0]), ("j", False, [40, 0]),
    ]:
        rows.append((left, {**value, name: thing}, row))
    must = of_fields(
        "1 a truth must", "2 b count must", "3 c whole must", "4 d upto 5 must", "5 e text must", "6 f list count must",
        "7 g form one must", "8 h form two must", "9 i list form one must", "10 j list truth must", ahead=ahead)
    value = {
        "a": False, "b": 0, "c": 0, "d": 0, "e": "", "f": [], "g": {}, "h": ("a", False), "i": [], "j": [],
    }
    row = [4, 0, 8, 0, 12, 0, 16, 0, 21, 0, 25, 1, 0, 29, 0, 33, 2, 4, 0, 37, 1, 0, 41, 1, 0]
    order = of_fields("9 a count", "4 b text", "6 c truth")
    return rows + [(must, value, row), (order, {"a": 1, "b": "z", "c": True}, [17, 1, 122, 24, 1, 36, 1])]


def record_rows():
    ahead = POINT + ["record pair", "1 a form point", "2 b form point must"]
    book = of_fields("1 p form pair", "2 q form point must", ahead=ahead)
    nought = {"x": 0, "y": 0}
    return [
        (book, {"p": {"a": None, "b": {"x": 3, "y": 4}}, "q": nought}, [5, 6, 9, 4, 4, 6, 8, 4, 9, 2, 4, 0]),
        (book, {"p": None, "q": nought}, [9, 2, 4, 0]),
        (book, {"p": {"a": nought, "b": nought}, "q": nought}, [5, 8, 5, 2, 4, 0, 9, 2, 4, 0, 9, 2, 4, 0]),
    ]


def choice_rows():
    book = of_fields("1 m form mark", ahead=MARK)
    rows = [
        (book, {"m": choice}, [5, len(body)] + body) for choice, body in [
            (("spot", {"x": 0, "y": 0}), [13, 2, 4, 0]), (("word", "hi"), [17, 2, 104, 105]), (("level", 9), [20, 9]),
            (("ready", True), [24, 1]), (("bits", [True, True]), [29, 2, 2, 3]),
            (("word", ""), [17, 0]), (("level", 0), [20, 0]), (("ready", False), [24, 0]), (("bits", []), [29, 1, 0]),
        ]
    ]
    outer = of_fields("1 a form outer", ahead=MARK + ["choice outer", "2 b form mark", "3 c list form mark"])
    return rows + [
        (outer, {"a": ("b", ("level", 0))}, [5, 4, 9, 2, 20, 0]),
        (outer, {"a": ("c", [("level", 1), ("level", 2)])}, [5, 9, 13, 7, 2, 2, 20, 1, 2, 20, 2]),
    ]


def long_rows():
    book = of_fields("1 r form long", "2 l list text", ahead=["record long", "1 a text", "2 b text"])
    rows = []
    for more, length in [(1, [127]), (2, [128, 1]), (3, [129, 1]), (78, [204, 1])]:
        body = [5, 100] + [97] * 100 + [9, 22 + more] + [98] * (22 + more)
        rows.append((book, {"r": {"a": "a" * 100, "b": "b" * (22 + more)}, "l": []}, [5] + length + body))
    part = [20] + ([100] + [99] * 100) * 20
    return rows + [(book, {"r": None, "l": ["c" * 100] * 20}, [9, 229, 15] + part)]


def rest_rows():
    book = of_fields("5 a count", "9 b text", "40 c truth must", "gone 7")
    rests = [(1, 0, (172, 2)), (7, 1, ()), (8, 1, (1, 2, 3)), (33, 0, (0,)), (41, 1, (255,)), (200, 0, (127,))]
    row = [4, 172, 2, 20, 1, 29, 0, 33, 3, 1, 2, 3, 37, 1, 120, 132, 1, 0, 160, 1, 1, 165, 1, 1, 255, 160, 6, 127]
    nested = of_fields(
        "1 a form point", "2 b list form point", "3 c form pick", ahead=POINT + ["choice pick", "1 p form point"])
    one = {"x": 0, "y": 0, "": [(3, 0, (5,)), (4, 1, (6,))]}
    body = [4, 0, 12, 5, 17, 1, 6]
    nested_row = [5, 7] + body + [9, 17, 2, 7] + body + [7] + body + [13, 9, 5, 7] + body
    return [
        (book, {"a": 1, "b": "x", "c": True, "": rests}, row),
        (book, {"a": 0, "b": "", "c": False, "": rests[2:4]}, [33, 3, 1, 2, 3, 132, 1, 0, 160, 1, 0]),
        (of_fields(), {"": [(1, 1, (7,) * 128)]}, [5, 128, 1] + [7] * 128),
        (of_fields(), {"": [(1, 0, (255,) * 36 + (15,))]}, [4] + GREAT),
        (of_fields(), {"": [(1, 1, (128, 0)), (9, 1, (255,) * 3)]}, [5, 2, 128, 0, 37, 3, 255, 255, 255]),
        (of_fields("gone 1 9"), {"": [(1, 0, (0,)), (9, 1, ())]}, [4, 0, 37, 0]),
        (nested, {"a": one, "b": [one, one], "c": ("p", one)}, nested_row),
    ]


def sample_row():
    first = [8, 0, 20, 0, 37, 3, 34, 92, 32, 160, 6, 255, 1]
    marks = [4, 2, 13, 0, 4, 5, 2, 8, 16, 4, 17, 2, 2, 1, 3, 17, 1, 0]
    shelf = [5, len(marks)] + marks + [13, len(first)] + first
    names = [3, 0, 4] + letters("abcd") + [4] + letters("{,}:")
    wholes = [4] + GREAT + [1, 0] + [254] + GREAT[1:]
    for key, part in [
        (41, names), (45, [3, 0, 1] + GREAT), (49, wholes), (53, [2, 40]), (57, [2, 0, 172, 2]), (61, [3, 6]),
    ]:
        shelf += [key, len(part)] + part
    mark = [25, 16, 2, 2, 8, 9, 11, 4, 0, 8, 12, 20, 14, 29, 0, 37, 1, 126]
    points = [2, 2, 8, 2, 9, 8, 4, 20, 0, 37, 3] + letters("abc")
    row = [4, 0, 8, 0, 12, 172, 2, 16, 1, 21, 3, 0, 255, 37, 32, 7, 65, 0]
    row += [129, 1, len(shelf) % 128 + 128, len(shelf) // 128] + shelf
    return row + [145, 3, len(mark)] + mark + [129, 4, 2, 28, 0] + [157, 6, 0] + [161, 6, len(points)] + points


def good_rows():
    rows = plain_rows() + list_rows() + empty_list_rows() + key_rows() + left_out_rows() + record_rows()
    return rows + choice_rows() + long_rows() + rest_rows() + [(sample_book(), good_value(), sample_row())]
