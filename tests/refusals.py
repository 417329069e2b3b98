"""What the tests share: how a refusal is taken, and things that are of the wrong kind."""

from formkin.errors import FormError


class Thing:
    """An object of no kind that the program knows."""


class Alike:
    """An object that says of each thing that it is the same."""

    __hash__ = None

    def __eq__(self, other):
        return True


NO_NUMBERS = [None, True, False, 1.0, 0.0, "", "1", "0", b"\x01", [], [1], (), (1,), {}, {1: 1}, {1}, range(2), Thing()]

NO_ROWS = [
    None, True, False, 0, 1, 1.5, "", "00", "abc", b"", b"\x00", bytearray(b"\x01"), {}, {0: 0}, set(), {1},
    range(3), iter([1]), Thing(),
    [-1], [256], [10 ** 5000], [-10 ** 5000], [True], [False], [1.0], ["1"], [None], [[]], [[1]], [b"\x01"],
    (-1,), (256,), (True,), (0, 1.0), ("a",), ((1,),),
    [0, 1, 2, True], [255, 256], [0, 0, None], (1, 2, "3"),
]

NO_TEXTS = [None, True, False, 0, 1, 80, 1.0, b"", b"00", [], ["0"], (), ("0", "0"), {}, {"0": "0"}, {"0"}, Thing()]


def refusal(call, *arguments):
    """The refusal that a call ends with; anything else that comes of it is a failure."""
    try:
        answer = call(*arguments)
    except FormError as error:
        return error
    raise AssertionError(f"{call.__name__} was not refused: {answer!r}")


def told(error):
    """The very class of a refusal and its fields, to be compared at once."""
    return type(error), dict(vars(error))


def anything():
    """Things of many kinds, new ones each time; none is a name, a number of a field, a kind, a field or a form."""
    return [
        None, True, False, 0, -1, 201, 10 ** 5000, 1.0, 0.5, float("nan"), "", "1", "A", "a b", b"a", [], [1], [[]],
        (), (1,), {}, {"a": 1}, {1}, range(2), iter([]), Thing(), Thing, len, Ellipsis,
    ]
