"""Hand-made rows that are refused. Each is told by the fields of a head, the row, the place that it is refused with,
and how many bytes make that sure: None where it hangs on the row's end."""

from samples import of_fields

AHEAD = [
    "record point", "1 x whole must", "2 y count",
    "choice pick", "1 spot form point", "2 word text 3", "5 bits list truth",
    "record bag", "1 picks list form pick", "2 pick form pick", "3 point form point", "4 words list text 3",
    "9 many list count", "gone 7",
    "record none",
]

CUT = [
    # The row is over amid a key, a number, a length, a text, a rest.
    ("1 a count", [4], 1, None), ("1 a count", [128], 1, None), ("1 a count", [132], 1, None),
    ("1 a count", [4, 128], 2, None), ("1 a count", [4] + [255] * 36, 37, None), ("1 a truth", [4, 129], 2, None),
    ("1 a text", [5], 1, None), ("1 a text", [5, 128], 2, None), ("1 a text", [5, 3, 97], 3, None),
    ("1 a text", [5, 100] + [97] * 99, 101, None), ("1 a text", [5, 1], 2, None),
    ("1 a count", [36], 1, None), ("1 a count", [36, 128], 2, None), ("1 a count", [37], 1, None),
    ("1 a count", [37, 2, 0], 3, None), ("1 a count", [37, 1], 2, None), ("1 a count", [37, 129], 2, None),
    ("1 a count", [37] + [255] * 36 + [15] + [0] * 9, 47, None),
    # Amid a list.
    ("1 a list count", [5], 1, None), ("1 a list count", [5, 3], 2, None), ("1 a list count", [5, 3, 1], 3, None),
    ("1 a list count", [5, 3, 2, 7], 4, None), ("1 a list count", [5, 3, 1, 7], 4, None),
    ("1 a list count", [5, 2, 0], 3, None), ("1 a list count", [5, 4, 1, 128], 4, None),
    ("1 a list truth", [5, 2, 1], 3, None), ("1 a list truth", [5, 3, 9, 255], 4, None),
    ("1 a list truth", [5, 3, 1, 1], 4, None), ("1 a list text", [5, 9, 2, 1, 97, 1], 6, None),
    ("1 a list form point", [5, 9, 2, 2, 4, 2], 6, None), ("1 a list form none", [5, 3, 2, 0], 4, None),
    # Amid a form: also where a field might begin, or something behind a choice's one field.
    ("1 a form point", [5], 1, None), ("1 a form point", [5, 2], 2, None), ("1 a form point", [5, 2, 4], 3, None),
    ("1 a form point", [5, 3, 4, 2], 4, None), ("1 a form point", [5, 9, 4, 2, 8], 5, None),
    ("1 a form none", [5, 1], 2, None), ("1 a form pick", [5, 2], 2, None), ("1 a form pick", [5, 2, 9], 3, None),
    ("1 a form pick", [5, 4, 9, 1, 97], 5, None), ("1 a form pick", [5, 4, 9, 0], 4, None),
    ("1 a form bag", [5, 9, 9, 7, 9, 1, 97], 7, None),
    # A length leads beyond the row: what is there is gone through first.
    ("1 a form point", [5, 200, 1, 4, 2, 36, 1], 7, None), ("1 a text", [5, 50, 97, 98], 4, None),
    ("1 a list count", [5, 255, 1, 3, 1, 2], 6, None), ("1 a form bag", [5, 100, 17, 90, 3, 2, 97, 97, 1], 9, None),
    ("1 a form point", [5] + [255] * 36 + [15] + [4, 2], 40, None),
    # A part is over ahead of the row's end, or just there.
    ("1 a list count", [5, 0], 2, 2), ("1 a list count", [5, 0, 1, 1], 2, 2), ("1 a list count", [5, 1, 1], 3, 3),
    ("1 a list count", [5, 1, 128], 3, 3), ("1 a list count", [5, 2, 2, 7], 4, 4),
    ("1 a list count", [5, 2, 2, 7, 9, 9], 4, 4), ("1 a list count", [5, 2, 1, 128, 1], 4, 4),
    ("1 a list truth", [5, 0], 2, 2), ("1 a list truth", [5, 1, 1], 3, 3), ("1 a list truth", [5, 1, 1, 1], 3, 3),
    ("1 a list truth", [5, 2, 9, 255], 4, 4), ("1 a list truth", [5, 2, 9, 255, 1], 4, 4),
    ("1 a list upto 5", [5, 2, 3, 0, 1], 4, 4), ("1 a list text", [5, 1, 1, 0], 3, 3),
    ("1 a list text", [5, 3, 2, 1, 97, 0], 5, 5), ("1 a list text", [5, 2, 1, 129, 1], 4, 4),
    ("1 a list form none", [5, 2, 2, 0, 0], 4, 4), ("1 a list form point", [5, 1, 1, 0], 3, 3),
    ("1 a form point", [5, 1, 4], 3, 3), ("1 a form point", [5, 1, 4, 2], 3, 3), ("1 a form point", [5, 1, 128], 3, 3),
    ("1 a form point", [5, 3, 4, 2, 8], 5, 5), ("1 a form point", [5, 3, 4, 2, 136, 1], 5, 5),
    ("1 a form point", [5, 2, 4, 128, 0], 4, 4), ("1 a form point", [5, 3, 4, 2, 37], 5, 5),
    ("1 a form pick", [5, 1, 9], 3, 3), ("1 a form pick", [5, 1, 128, 1], 3, 3), ("1 a form pick", [5, 1, 5, 0], 3, 3),
    ("1 a form bag", [5, 2, 37, 0, 1], 4, 4), ("1 a form bag", [5, 4, 13, 2, 4, 128, 0], 6, 6),
    ("1 a form bag", [5, 1, 37], 3, 3), ("1 a form bag", [5, 3, 29, 128, 128, 0], 5, 5),
    ("1 a form bag", [5, 3, 37, 1, 2, 1], 5, 5), ("1 a form bag", [5, 2, 13, 255, 3], 4, 4),
]

NUMBER = [
    ("1 a count", [132, 0], 1, 2), ("1 a count", [128, 128, 0], 2, 3), ("1 a count", [4, 128, 0], 2, 3),
    ("1 a count", [4, 129, 128, 0], 3, 4), ("1 a count", [4] + [255] * 36 + [16], 37, 38),
    ("1 a count", [4] + [128] * 36 + [16], 37, 38), ("1 a count", [4] + [255] * 37, 37, 38),
    ("1 a count", [4] + [128] * 40, 37, 38), ("1 a count", [4] + [128] * 36 + [0], 37, 38),
    ("1 a count", [255] * 37, 36, 37), ("1 a count", [4, 1, 255, 0], 3, 4), ("1 a whole", [4, 255, 0], 2, 3),
    ("1 a truth", [4, 129, 0], 2, 3), ("1 a upto 9", [4, 137, 0], 2, 3), ("1 a text", [5, 129, 0, 97], 2, 3),
    ("1 a text", [5] + [255] * 40, 37, 38), ("1 a list count", [5, 130, 0, 1, 7], 2, 3),
    ("1 a list count", [5, 3, 129, 0, 7], 3, 4), ("1 a list count", [5, 3, 1, 128, 0], 4, 5),
    ("1 a list truth", [5, 3, 129, 0, 1], 3, 4), ("1 a list text", [5, 4, 1, 129, 0, 97], 4, 5),
    ("1 a form point", [5, 130, 0, 4, 2], 2, 3), ("1 a form point", [5, 3, 132, 0, 2], 3, 4),
    ("1 a form point", [5, 3, 4, 128, 0], 4, 5), ("1 a form pick", [5, 3, 137, 0, 0], 3, 4),
    ("1 a count", [36, 128, 0], 2, 3), ("1 a count", [36] + [255] * 36 + [16], 37, 38),
    ("1 a count", [37, 129, 0, 5], 2, 3),
    # Though the number would be wrong, too.
    ("1 a count", [128, 0], 1, 2), ("1 a truth", [4, 255, 0], 2, 3), ("1 a text 3", [5, 255, 0], 2, 3),
]

KEY = [
    ("1 a count", [0], 0, 1), ("1 a count", [1, 0], 0, 1), ("1 a count", [2], 0, 1), ("1 a count", [3], 0, 1),
    ("1 a count", [164, 6], 0, 2), ("1 a count", [165, 6, 0], 0, 2), ("1 a count", [166, 6], 0, 2),
    ("1 a count", [167, 6, 1], 0, 2), ("1 a count", [255] * 36 + [15], 0, 37), ("1 a count", [4, 1, 0], 2, 3),
    ("1 a count", [4, 1, 164, 6, 5], 2, 4), ("200 a count", [160, 6, 1, 164, 6, 1], 3, 5),
    ("1 a form point", [5, 1, 0], 2, 3), ("1 a form point", [5, 2, 164, 6], 2, 4),
    ("1 a form point", [5, 9, 4, 2, 3], 4, 5), ("1 a form pick", [5, 1, 0], 2, 3),
    ("1 a form pick", [5, 2, 167, 6], 2, 4), ("1 a form bag", [5, 4, 13, 2, 2, 0], 4, 5),
    ("1 a list form none", [5, 4, 2, 0, 1, 0], 5, 6),
]

ORDER = [
    ("1 a count; 2 b count", [8, 1, 4, 1], 2, 3), ("1 a count; 2 b count", [4, 1, 4, 1], 2, 3),
    ("1 a count; 2 b count", [8, 1, 4, 0], 2, 3), ("1 a count; 2 b count", [4, 1, 6], 2, 3),
    ("1 a count; 2 b count", [8, 1, 5, 0], 2, 3), ("1 a count; 2 b count", [8, 1, 8], 2, 3),
    ("1 a count; 40 b count", [160, 1, 1, 4, 1], 3, 4), ("40 b count", [160, 1, 1, 160, 1, 1], 3, 5),
    ("1 a count", [36, 1, 36, 1], 2, 3), ("1 a count", [36, 1, 37, 0], 2, 3), ("1 a count", [37, 0, 32, 1], 2, 3),
    ("1 a count", [36, 1, 4, 1], 2, 3), ("9 a count", [36, 1, 32, 1], 2, 3), ("9 a count", [40, 1, 36, 1], 2, 3),
    ("9 a count", [36, 1, 39], 2, 3), ("1 a form point", [5, 4, 8, 1, 4, 2], 4, 5),
    ("1 a form point", [5, 4, 4, 2, 4, 2], 4, 5), ("1 a list form point", [5, 6, 1, 4, 8, 1, 4, 2], 6, 7),
    ("1 a form bag", [5, 7, 13, 2, 4, 2, 9, 0, 0], 6, 7),
]

CHOICE = [
    # A number that it hasn't.
    ("1 a form pick", [5, 2, 12, 0], 2, 3), ("1 a form pick", [5, 2, 13, 0], 2, 3), ("1 a form pick", [5, 2, 14], 2, 3),
    ("1 a form pick", [5, 2, 15, 0], 2, 3), ("1 a form pick", [5, 3, 160, 6, 0], 2, 4),
    ("1 a list form pick", [5, 5, 1, 3, 16, 0, 0], 4, 5), ("1 a form bag", [5, 4, 9, 2, 24, 0], 4, 5),
    # A body without a field.
    ("1 a form pick", [5, 0], 2, 2), ("1 a form pick", [5, 0, 9, 0], 2, 2), ("1 a list form pick", [5, 2, 1, 0], 4, 4),
    ("1 a list form pick", [5, 5, 2, 2, 9, 0, 0], 7, 7), ("1 a form bag", [5, 2, 9, 0], 4, 4),
    ("1 a form bag", [5, 4, 5, 2, 2, 0], 6, 6),
    ("1 a form pick must", [5, 0], 2, 2),
    # Something behind its one field.
    ("1 a form pick", [5, 4, 9, 1, 97, 0], 5, 6), ("1 a form pick", [5, 4, 9, 1, 97, 9], 5, 6),
    ("1 a form pick", [5, 4, 9, 1, 97, 128], 5, 6), ("1 a form pick", [5, 9, 9, 0, 255], 4, 5),
    ("1 a form pick", [5, 5, 9, 1, 97, 21, 0], 5, 6), ("1 a form pick", [5, 5, 9, 0, 21, 1, 0], 4, 5),
    ("1 a form pick", [5, 6, 5, 2, 4, 2, 9, 0], 6, 7), ("1 a form pick", [5, 5, 21, 2, 1, 1, 7], 6, 7),
    ("1 a list form pick", [5, 6, 1, 4, 9, 1, 97, 7], 7, 8), ("1 a form bag", [5, 6, 9, 4, 9, 1, 97, 7], 7, 8),
]

SHAPE = [
    ("1 a count", [6], 0, 1), ("1 a count", [7, 0], 0, 1), ("1 a count", [5, 0], 0, 1), ("1 a truth", [5, 1], 0, 1),
    ("1 a whole", [5, 0], 0, 1), ("1 a upto 9", [5, 0], 0, 1), ("1 a text", [4, 0], 0, 1), ("1 a text", [6], 0, 1),
    ("1 a text", [7], 0, 1), ("1 a list truth", [4, 0], 0, 1), ("1 a list count", [4, 1], 0, 1),
    ("1 a form point", [4, 2], 0, 1), ("1 a form pick", [4, 2], 0, 1), ("40 a count", [162, 1, 1], 0, 2),
    ("1 a count", [38], 0, 1), ("1 a count", [39, 1], 0, 1), ("1 a count", [4, 1, 38, 1], 2, 3),
    ("1 a count", [162, 6, 1], 0, 2), ("1 a form pick", [5, 2, 8, 0], 2, 3), ("1 a form pick", [5, 2, 10, 0], 2, 3),
    ("1 a form pick", [5, 2, 11, 0], 2, 3), ("1 a form point", [5, 2, 5, 0], 2, 3),
    ("1 a form point", [5, 4, 4, 2, 9, 0], 4, 5), ("1 a form point", [5, 4, 4, 2, 38, 0], 4, 5),
    ("1 a list form point", [5, 3, 1, 1, 7], 4, 5), ("1 a form bag", [5, 1, 30], 2, 3),
]

VALUE = [
    ("1 a truth", [4, 2], 1, 2), ("1 a truth", [4, 128, 1], 1, 3), ("1 a truth", [4] + [255] * 36 + [15], 1, 38),
    ("1 a upto 9", [4, 10], 1, 2), ("1 a upto 9", [4, 138, 1], 1, 3), ("1 a upto 300", [4, 173, 2], 1, 3),
    ("1 a upto 1", [4, 2], 1, 2), ("40 a upto 1", [160, 1, 2], 2, 3), ("1 a form pick", [5, 3, 9, 4, 97], 3, 4),
    # A text that is too long, though its length leads beyond its part, too.
    ("1 a text 3", [5, 4], 1, 2), ("1 a text 3", [5, 4, 97, 97, 97, 97], 1, 2), ("1 a text", [5, 101], 1, 2),
    ("1 a text", [5, 128, 1], 1, 3), ("1 a text", [5] + [255] * 36 + [15], 1, 38),
    ("1 a list text 3", [5, 3, 1, 4, 97], 3, 4), ("1 a list text 3", [5, 6, 1, 4, 97, 97, 97, 97], 3, 4),
    ("1 a list text 3", [5, 9, 2, 1, 97, 4, 97], 5, 6),
    # A byte that is no sign.
    ("1 a text", [5, 1, 31], 2, 3), ("1 a text", [5, 1, 127], 2, 3), ("1 a text", [5, 1, 37], 2, 3),
    ("1 a text", [5, 1, 0], 2, 3), ("1 a text", [5, 1, 128], 2, 3), ("1 a text", [5, 1, 255], 2, 3),
    ("1 a text", [5, 1, 10], 2, 3), ("1 a text", [5, 3, 97, 37, 97], 3, 4), ("1 a text", [5, 3, 97, 97, 37], 4, 5),
    ("1 a text", [5, 50, 97, 37], 3, 4), ("1 a list text 3", [5, 4, 2, 0, 1, 37], 5, 6),
    ("1 a text = a", [5, 1, 160], 2, 3),
    # A list of 21 things and more.
    ("1 a list count", [5, 22, 21] + [0] * 21, 2, 3), ("1 a list count", [5, 1, 21], 2, 3),
    ("1 a list truth", [5, 4, 21, 0, 0, 0], 2, 3), ("1 a list text", [5, 23, 149, 1] + [0] * 21, 2, 4),
    ("1 a list form none", [5, 22, 21] + [0] * 21, 2, 3), ("1 a list count", [5, 50, 21], 2, 3),
    ("1 a list count", [5, 37] + [255] * 36 + [15], 2, 39),
    # A thing of a list.
    ("1 a list upto 300", [5, 3, 1, 173, 2], 3, 5), ("1 a list upto 300", [5, 4, 2, 1, 173, 2], 4, 6),
    ("1 a list upto 300", [5, 3, 2, 173, 2], 3, 5),
    # A packed thing: at the byte with its last bit, though others lack behind it.
    ("1 a list upto 5", [5, 2, 1, 6], 3, 4), ("1 a list upto 5", [5, 2, 1, 7], 3, 4),
    ("1 a list upto 5", [5, 2, 2, 48], 3, 4), ("1 a list upto 5", [5, 3, 3, 128, 1], 4, 5),
    ("1 a list upto 5", [5, 3, 3, 6, 0], 3, 4), ("1 a list upto 5", [5, 3, 3, 6], 3, 4),
    ("1 a list upto 5", [5, 2, 3, 6], 3, 4), ("1 a list upto 2", [5, 2, 4, 192], 3, 4),
    ("1 a list upto 254", [5, 3, 2, 0, 255], 4, 5), ("1 a list upto 100", [5, 3, 2, 0, 128], 4, 5),
    ("1 a list upto 100", [5, 3, 2, 101, 0], 3, 4), ("1 a list upto 100", [5, 3, 2, 128, 50], 4, 5),
    ("1 a list upto 5", [5, 9, 8, 0, 12, 0], 4, 5), ("1 a list upto 5", [5, 9, 8, 0, 0, 192], 5, 6),
    # Bits that fill the last byte.
    ("1 a list truth", [5, 2, 1, 2], 3, 4), ("1 a list truth", [5, 2, 1, 128], 3, 4),
    ("1 a list truth", [5, 2, 1, 129], 3, 4), ("1 a list truth", [5, 2, 7, 128], 3, 4),
    ("1 a list truth", [5, 3, 9, 0, 2], 4, 5), ("1 a list truth", [5, 3, 9, 255, 129], 4, 5),
    ("1 a list upto 5", [5, 2, 1, 8], 3, 4), ("1 a list upto 5", [5, 2, 2, 64], 3, 4),
    ("1 a list upto 5", [5, 3, 3, 0, 2], 4, 5), ("1 a list upto 100", [5, 2, 1, 128], 3, 4),
    ("1 a list truth", [5, 3, 1, 2, 0], 3, 4), ("1 a list truth", [5, 3, 1, 2], 3, 4),
    # A length leads beyond the row: what is there is gone through first.
    ("1 a form bag", [5, 100, 17, 90, 3, 2, 97, 37], 7, 8), ("1 a form pick", [5, 80, 21, 70, 1, 2], 5, 6),
    ("1 a list upto 5", [5, 90, 20, 255], 3, 4),
]

LENGTH = [
    # One that leads beyond the told end of its part, also where that is beyond the row's end.
    ("1 a list text 3", [5, 3, 1, 3, 97], 3, 4), ("1 a list text 3", [5, 2, 1, 1], 3, 4),
    ("1 a list text", [5, 4, 2, 0, 100, 97], 4, 5), ("1 a list form point", [5, 3, 1, 2, 4, 2], 3, 4),
    ("1 a list form none", [5, 2, 1, 1], 3, 4), ("1 a list form pick", [5, 2, 1, 9, 9, 0], 3, 4),
    ("1 a form bag", [5, 4, 17, 5, 1, 0], 3, 4), ("1 a form bag", [5, 2, 13, 1], 3, 4),
    ("1 a form bag", [5, 3, 13, 255, 3], 3, 5), ("1 a list form pick", [5, 3, 2, 2, 9, 0], 3, 4),
    ("1 a form bag", [5, 6, 5, 4, 1, 3, 9, 0], 5, 6), ("1 a form bag", [5, 6, 9, 3, 5, 3, 4, 2], 5, 6),
    ("1 a form point", [5, 4, 37, 3, 0, 0], 3, 4), ("1 a form point", [5, 4, 4, 2, 37, 1], 5, 6),
    ("1 a form pick", [5, 2, 9, 1], 3, 4), ("1 a form pick", [5, 2, 5, 1, 4], 3, 4),
    ("1 a form pick", [5, 3, 9, 2, 97], 3, 4), ("1 a form pick", [5, 3, 21, 2, 0], 3, 4),
    ("1 a form bag", [5, 100, 17, 99, 1], 3, 4), ("1 a form bag", [5, 39, 29] + [255] * 36 + [15, 0], 3, 40),
    # Something behind a list's things within its part.
    ("1 a list count", [5, 3, 1, 7, 9], 4, 5), ("1 a list count", [5, 2, 0, 0], 3, 4),
    ("1 a list count", [5, 3, 1, 7, 128], 4, 5), ("1 a list count", [5, 9, 1, 7, 255], 4, 5),
    ("1 a list count must", [5, 2, 0, 0], 3, 4), ("1 a list truth", [5, 3, 1, 1, 0], 4, 5),
    ("1 a list truth", [5, 2, 0, 0], 3, 4), ("1 a list truth", [5, 3, 8, 255, 255], 4, 5),
    ("1 a list upto 255", [5, 3, 1, 255, 1], 4, 5), ("1 a list text", [5, 3, 1, 0, 0], 4, 5),
    ("1 a list form none", [5, 3, 1, 0, 0], 4, 5), ("1 a list form pick", [5, 5, 1, 2, 9, 0, 9], 6, 7),
    ("1 a form bag", [5, 4, 37, 2, 0, 7], 5, 6),
]

BLANK = [
    ("1 a truth", [4, 0], 0, 2), ("1 a truth = yes", [4, 1], 0, 2), ("1 a truth = no", [4, 0], 0, 2),
    ("1 a count", [4, 0], 0, 2), ("1 a count = 5", [4, 5], 0, 2), ("1 a count = 300", [4, 172, 2], 0, 3),
    ("1 a whole", [4, 0], 0, 2), ("1 a whole = -1", [4, 1], 0, 2), ("1 a whole = 1", [4, 2], 0, 2),
    ("1 a upto 9", [4, 0], 0, 2), ("1 a upto 9 = 9", [4, 9], 0, 2), ("1 a text", [5, 0], 0, 2),
    ("1 a text = ab", [5, 2, 97, 98], 0, 4), ("1 a text 1", [5, 0], 0, 2), ("1 a list count", [5, 1, 0], 0, 3),
    ("1 a list truth", [5, 1, 0], 0, 3), ("1 a list upto 300", [5, 1, 0], 0, 3), ("1 a list text", [5, 1, 0], 0, 3),
    ("1 a list form pick", [5, 1, 0], 0, 3), ("2 b count; 3 c count", [8, 1, 12, 0], 2, 4),
    ("2 b count must; 3 c text", [8, 0, 13, 0], 2, 4), ("32 a count", [128, 1, 0], 0, 3),
    ("200 a text", [161, 6, 0], 0, 3), ("9 a count", [4, 0, 36, 0], 2, 4),
    ("1 a form point", [5, 4, 4, 0, 8, 0], 4, 6), ("1 a form point", [5, 2, 8, 0], 2, 4),
    ("1 a form bag", [5, 3, 37, 1, 0], 2, 5), ("1 a list form point", [5, 6, 1, 4, 4, 0, 8, 0], 6, 8),
    ("1 a form pick", [5, 6, 5, 4, 4, 0, 8, 0], 6, 8), ("1 a truth; 2 b count must", [4, 0], 0, 2),
]

MUST = [
    ("1 a count must", [], 0, None), ("1 a truth must", [], 0, None), ("1 a text must", [], 0, None),
    ("1 a list count must", [], 0, None), ("1 a form none must", [], 0, None), ("1 a form pick must", [], 0, None),
    ("1 a count must", [36, 1], 2, None), ("1 a count must; 2 b count", [8, 1], 2, None),
    ("1 a count must; 2 b count must", [4, 0], 2, None), ("1 a count must; 2 b count must", [8, 0, 37, 1, 0], 5, None),
    ("1 a form point", [5, 0], 2, 2), ("1 a form point", [5, 0, 36, 1], 2, 2), ("1 a form point", [5, 2, 8, 1], 4, 4),
    ("1 a form point", [5, 2, 8, 1, 0], 4, 4), ("1 a form point", [5, 3, 37, 1, 4], 5, 5),
    ("1 a form point; 2 b count must", [5, 0], 2, 2), ("1 a list form point", [5, 2, 1, 0], 4, 4),
    ("1 a list form point", [5, 5, 2, 2, 4, 0, 0], 7, 7), ("1 a form pick", [5, 2, 5, 0], 4, 4),
    ("1 a form bag", [5, 2, 13, 0], 4, 4), ("1 a form bag", [5, 4, 13, 2, 8, 1], 6, 6),
    ("1 a form bag", [5, 5, 13, 0, 29, 0], 4, 4),
]

WRONG = [
    (of_fields(*fields.split("; "), ahead=AHEAD), row, place, why, sure)
    for why, group in [
        ("cut", CUT), ("number", NUMBER), ("key", KEY), ("order", ORDER), ("choice", CHOICE), ("shape", SHAPE),
        ("value", VALUE), ("length", LENGTH), ("blank", BLANK), ("must", MUST),
    ]
    for fields, row, place, sure in group
]
