"""The rows that a desk knows, and what their words tell."""

from rivalsets.texts import read_set
from rivalsets.weights import MOST_WEIGHT

LETTERS = "abcdefghijklmnopqrstuvwxyz"
LONGEST_NAME = 4
MOST_NAMES = 3
NONE = "none"

# What stands behind a row's first word; of weigh it hangs on how many places there are.
PATTERNS = {
    "new": ("fresh",),
    "copy": ("kept", "fresh"),
    "drop": ("kept",),
    "names": (),
    "put": ("kept", "set"),
    "without": ("kept", "place"),
    "keep": ("kept", "place"),
    "back": ("kept",),
    "family": ("kept",),
    "other": ("kept",),
    "holds": ("kept", "set"),
    "meets": ("kept", "set"),
    "dual": ("kept", "kept"),
    "verdict": ("kept",),
    "cheapest": ("kept",),
    "shared": ("kept",),
    "even": ("kept",),
}


def read_row(n, names, row):
    """A row's first word and what its others tell, in a list; None where it is no row beside these kept names."""
    words = row.split(" ")
    pattern = pattern_of(n, words[0])
    if pattern is None or len(pattern) != len(words) - 1:
        return None
    told = [read_word(n, names, kind, word) for kind, word in zip(pattern, words[1:])]
    return None if any(thing is None for thing in told) else [words[0]] + told


def pattern_of(n, word):
    """The kinds of the words that stand behind a first word; None where no row begins with it."""
    if word == "weigh":
        return ("weight",) * n
    return PATTERNS.get(word)


def read_word(n, names, kind, word):
    """What a word of a kind tells; None where it is no such word."""
    if kind == "kept":
        return word if word in names else None
    if kind == "fresh":
        return word if is_name(word) and word not in names and len(names) < MOST_NAMES else None
    if kind == "set":
        return read_set(n, word)
    return read_number(word, n if kind == "place" else MOST_WEIGHT + 1)


def is_name(word):
    """Whether a family may be kept by this name."""
    return 1 <= len(word) <= LONGEST_NAME and word != NONE and all(sign in LETTERS for sign in word)


def read_number(word, many):
    """The number below so many that a word writes; None where it writes none."""
    # A number is written in one way only: so none is read that isn't written so again.
    for number in range(many):
        if str(number) == word:
            return number
    return None
