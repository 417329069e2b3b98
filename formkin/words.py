"""Names, numbers and truths as texts, and the words of a line."""

LETTERS = "abcdefghijklmnopqrstuvwxyz"
FIGURES = "0123456789"
MOST_LETTERS = 12
MOST_FIGURES = 80

TRUTHS = {"yes": True, "no": False}


def is_whole(thing):
    # Python counts True and False among its ints; here they are no numbers.
    return isinstance(thing, int) and not isinstance(thing, bool)


def is_among(thing, least, most):
    return is_whole(thing) and least <= thing <= most


def is_made_of(text, signs):
    return all([sign in signs for sign in text])


def is_name(thing):
    if not isinstance(thing, str):
        return False
    return is_among(len(thing), 1, MOST_LETTERS) and is_made_of(thing, LETTERS)


def number_text(number):
    return str(number)


def number_of(word):
    if not isinstance(word, str):
        return None
    figures = word[1:] if word.startswith("-") else word
    # The length first: Python's int refuses texts of very many figures.
    if not is_among(len(figures), 1, MOST_FIGURES) or not is_made_of(figures, FIGURES):
        return None
    # Nought is written in one way only, so -0 is no number either.
    if figures.startswith("0") and word != "0":
        return None
    return int(word)


def truth_text(truth):
    return "yes" if truth else "no"


# None of a word that writes no truth.
def truth_of(word):
    return TRUTHS.get(word)


def words_of(line):
    if not isinstance(line, str):
        return None
    # Parted at blanks alone: a split without a sign would part at tabs and line feeds too.
    words = line.split(" ")
    if "" in words:
        return None
    return words
