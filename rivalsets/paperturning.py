"""Papers turned by an ORDER: what was let by is let by of what is turned."""

from rivalsets.turning import turned_family, turned_pack, turned_set, turned_weights


def turned_dual(one, other, paper, order):
    """The DUAL paper of two FAMILIES as one of the turned ones."""
    return turned_tree(paper, order, numbers_turned(one, order), numbers_turned(other, order))


def numbers_turned(family, order):
    """For each member the number that it has in the turned FAMILY."""
    turned = turned_family(family, order)[1]
    return [turned.index(turned_set(member, order)) for member in family[1]]


def turned_tree(tree, order, of_one, of_other):
    """A DUAL tree turned, the turned members' numbers being known."""
    if tree[0] == "split":
        word, place, first, second = tree
        turned_first = turned_tree(first, order, of_one, of_other)
        return word, order[place], turned_first, turned_tree(second, order, of_one, of_other)
    word, number = tree
    return word, (of_one[number] if word == "one" else of_other[number])


def turned_pair(paper, order):
    """A PAIR turned."""
    word, meeter, pack = paper
    return word, turned_set(meeter, order), turned_pack(pack, order)


def turned_shared(paper, order):
    """A SHARED paper turned."""
    word, bottom, rows, covers = paper
    return word, bottom, turned_pack(rows, order), turned_weights(covers, order)
