"""SHARED papers that are told, and what is read off one: its NUMBER, its WHOLE PART, its CUT."""

from rivalsets.families import whole_family
from rivalsets.fractions import fraction_of
from rivalsets.packs import size_of

HALVES = 2


def shared_told(family, weights):
    """A SHARED paper for a FAMILY and WEIGHTS; None of WHOLE."""
    if family == whole_family(family[0]):
        return None
    members = family[1]
    table, holders, bottom = settled(family, weights)
    counts = {column: row[-1] for column, row in zip(holders, table)}
    rows = [(member, counts.get(column, 0)) for column, member in enumerate(members)]
    covers = table[-1][len(members):-1]
    return "shared", bottom, tuple([row for row in rows if row[1]]), tuple(covers)


def settled(family, weights):
    """The table in which nothing more is gained, the column that each row tells, and the bottom of all numbers."""
    table = first_table(family, weights)
    holders = [len(family[1]) + place for place in range(family[0])]
    bottom = 1
    column = first_gaining(table)
    while column is not None:
        at = tightest_row(table, holders, column)
        lead = table[at][column]
        table = exchanged(table, at, column, bottom)
        holders[at] = column
        bottom = lead
        column = first_gaining(table)
    return table, holders, bottom


def first_table(family, weights):
    """For each place a row: which members have it, what is left there, its weight; and a last row of what is gained."""
    n, members = family
    table = []
    for place in range(n):
        having = [1 if place in member else 0 for member in members]
        leaving = [1 if place == own else 0 for own in range(n)]
        table.append(having + leaving + [weights[place]])
    table.append([-1] * len(members) + [0] * (n + 1))
    return table


def first_gaining(table):
    """The first column by which more is gained; None where there is none."""
    # Always the first one, here and in is_tighter: else exchanges that gain nothing might go round for ever.
    for column, worth in enumerate(table[-1][:-1]):
        if worth < 0:
            return column
    return None


def tightest_row(table, holders, column):
    """The row that bounds a column most."""
    best = None
    # There is one: a member of a FAMILY that isn't WHOLE has a place, so no share grows without a bound.
    for at in range(len(holders)):
        if table[at][column] > 0 and (best is None or is_tighter(table, holders, column, at, best)):
            best = at
    return best


def is_tighter(table, holders, column, one, other):
    """Whether the one row bounds a column more than the other, or as much with a lower column of its own."""
    first = table[one][-1] * table[other][column]
    second = table[other][-1] * table[one][column]
    return first < second or first == second and holders[one] < holders[other]


def exchanged(table, at, column, bottom):
    """The table once the row tells the column; the row's number there is the new bottom."""
    lead = table[at]
    return [row if number == at else cleared(row, lead, column, bottom) for number, row in enumerate(table)]


def cleared(row, lead, column, bottom):
    """Another row once the leading one tells the column."""
    # Each number is a determinant of the first table's, so the old bottom always divides: nothing is lost.
    return [(worth * lead[column] - row[column] * own) // bottom for worth, own in zip(row, lead)]


def halves_told(family, weights):
    """A SHARED paper of bottom 2; None of WHOLE, and where a member has three places or more."""
    if any(len(member) > 2 for member in family[1]):
        return None
    paper = shared_told(family, weights)
    if paper is None:
        return None
    bottom = paper[1]
    # Members of two places join the places as ties do spots. What a settled table tells falls apart into pieces that
    # have one tie too many at most, which closes an odd round: so each share is a number of halves.
    rows = [(member, count * HALVES // bottom) for member, count in paper[2]]
    return "shared", HALVES, tuple(rows), tuple([cover * HALVES // bottom for cover in paper[3]])


def number_of(paper):
    """The NUMBER of a SHARED paper."""
    return fraction_of(size_of(paper[2]), paper[1])


def whole_part(paper):
    """The PACK of how often each count has bottom in it, where it has it at all."""
    bottom = paper[1]
    return tuple([(member, count // bottom) for member, count in paper[2] if count >= bottom])


def cut_of(family, paper):
    """The SET of the places whose cover, times the most places that a member has, is at least bottom."""
    most = max([len(member) for member in family[1]], default=0)
    return tuple([place for place, cover in enumerate(paper[3]) if cover * most >= paper[1]])
