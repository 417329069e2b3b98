"""Kinds: what a field may hold."""

from formkin.bits import MOST_NUMBER, MOST_WHOLE
from formkin.words import is_among, number_text

MOST_SIGNS = 100
MOST_THINGS = 20
MOST_PACKED = 255

# The signs of a text by their numbers: from the blank to ~, but not the percent sign.
LEAST_SIGN = 32
MOST_SIGN = 126
PERCENT_SIGN = 37
# From the least one on, with a second blank in the place of the percent sign.
SIGNS_BY_NUMBER = " !\"#$ &'()*+,-./0123456789:;<=>?@ABCDEFGHIJKLMNOPQRSTUVWXYZ[\\]^_`abcdefghijklmnopqrstuvwxyz{|}~"


def is_sign(number):
    return LEAST_SIGN <= number <= MOST_SIGN and number != PERCENT_SIGN


def sign_of(number):
    return SIGNS_BY_NUMBER[number - LEAST_SIGN]


class Kind:
    # By itself it is no kind that a book may have, so it suits nothing.
    def word(self):
        return ""

    def words(self):
        return [self.word()]

    def is_plain(self):
        return True

    def shape(self):
        return 0

    def width(self):
        return 0

    def suits(self, value):
        return False

    def blank(self):
        return None


class Truth(Kind):
    def word(self):
        return "truth"

    def width(self):
        return 1

    def suits(self, value):
        return isinstance(value, bool)

    def blank(self):
        return False


class Count(Kind):
    def word(self):
        return "count"

    def suits(self, value):
        return is_among(value, 0, MOST_NUMBER)

    def blank(self):
        return 0


class Whole(Kind):
    def word(self):
        return "whole"

    def suits(self, value):
        return is_among(value, -MOST_WHOLE - 1, MOST_WHOLE)

    def blank(self):
        return 0


class Upto(Kind):
    def __init__(self, most):
        self.most = most

    def word(self):
        return "upto"

    def words(self):
        return ["upto", number_text(self.most)]

    def width(self):
        if self.most > MOST_PACKED:
            return 0
        return self.most.bit_length()

    def suits(self, value):
        return is_among(value, 0, self.most)

    def blank(self):
        return 0


class Text(Kind):
    def __init__(self, most=100):
        self.most = most

    def word(self):
        return "text"

    def words(self):
        if self.most == MOST_SIGNS:
            return ["text"]
        return ["text", number_text(self.most)]

    def shape(self):
        return 1

    def suits(self, value):
        if not isinstance(value, str) or len(value) > self.most:
            return False
        return all([is_sign(ord(sign)) for sign in value])

    def blank(self):
        return ""


class List(Kind):
    def __init__(self, item):
        self.item = item

    def word(self):
        return "list"

    def words(self):
        return ["list"] + self.item.words()

    def is_plain(self):
        return False

    def shape(self):
        return 1

    def suits(self, value):
        if not isinstance(value, list) or len(value) > MOST_THINGS:
            return False
        return all([self.item.suits(thing) for thing in value])

    def blank(self):
        return []


class Nested(Kind):
    def __init__(self, name):
        self.name = name

    def word(self):
        return "form"

    def words(self):
        return ["form", self.name]

    def is_plain(self):
        return False

    def shape(self):
        return 1

    # Whether it is a value of that form, the book alone can tell.
    def suits(self, value):
        return True
