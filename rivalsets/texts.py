"""SETs and FAMILIES as texts, written and read."""

from rivalsets.errors import NoText
from rivalsets.families import can_follow
from rivalsets.sets import is_set

FIGURES = ("0", "1", "2", "3", "4", "5", "6", "7", "8")
HEAD = "family"
EMPTY = "-"


def set_text(some):
    """A SET as a text."""
    if not some:
        return EMPTY
    return ",".join([str(place) for place in some])


def read_set(n, text):
    """The SET of n places that a text writes, or None."""
    if text == EMPTY:
        return ()
    words = text.split(",")
    # A number may be written in more ways than by its one figure: only that one is read.
    if not all(word in FIGURES for word in words):
        return None
    some = tuple([int(word) for word in words])
    return some if is_set(n, some) else None


def family_lines(family):
    """A FAMILY as a list of texts."""
    n, members = family
    return [f"{HEAD} {n}"] + [set_text(member) for member in members]


def read_family(lines):
    """The FAMILY that the lines write; NoText where they write none."""
    if not lines:
        raise NoText(0, 0)
    n = read_head(lines[0])
    members = []
    for row in range(1, len(lines)):
        members.append(read_member(n, members, row, lines[row]))
    return n, tuple(members)


def read_head(line):
    """The count of places that the first line tells."""
    words = line.split(" ")
    if words[0] != HEAD:
        raise NoText(0, 0)
    if len(words) < 2 or words[1] not in FIGURES:
        raise NoText(0, 1)
    if len(words) > 2:
        raise NoText(0, 2)
    return int(words[1])


def read_member(n, ahead, row, line):
    """The member that a line behind the first one writes, the members ahead of it being known."""
    words = line.split(" ")
    some = read_set(n, words[0])
    if some is None or not can_follow(ahead, some):
        raise NoText(row, 0)
    if len(words) > 1:
        raise NoText(row, 1)
    return some
