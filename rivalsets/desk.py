"""A desk: it keeps families by names, is told rows, and answers each with a text."""

from rivalsets.badseeking import verdict
from rivalsets.deskwords import NONE, read_row
from rivalsets.errors import NoRow, TooMany
from rivalsets.families import does_hold, void_family
from rivalsets.others import is_meeter
from rivalsets.packs import size_of
from rivalsets.pairing import pair_told
from rivalsets.sharing import number_of, shared_told
from rivalsets.texts import family_lines
from rivalsets.twins import Twin
from rivalsets.weights import cheapest, cost_of

OK = "ok"
MOST_WEIGHT_IN_ALL = 12


def make_new(desk, told):
    """VOID by a new name."""
    desk.twins[told[1]] = Twin(void_family(desk.n))
    return OK


def make_copy(desk, told):
    """A kept family as it stands, by a new name."""
    desk.twins[told[2]] = Twin(desk.twins[told[1]].family())
    return OK


def let_go(desk, told):
    """A name goes."""
    del desk.twins[told[1]]
    return OK


def all_names(desk, told):
    """The kept names, in the order in which they came."""
    return " ".join(list(desk.twins)) if desk.twins else NONE


def do_deed(desk, told):
    """A DEED is done."""
    word, name, what = told
    twin = desk.twins[name]
    twin.do((word, what))
    return counts_text(twin)


def go_back(desk, told):
    """The last deed is undone."""
    twin = desk.twins[told[1]]
    return counts_text(twin) if twin.back() else NONE


def counts_text(twin):
    """How many members a family and its OTHER have."""
    return f"{len(twin.family()[1])} {len(twin.other()[1])}"


def tell_family(desk, told):
    """The lines of the family."""
    return lines_text(desk.twins[told[1]].family())


def tell_other(desk, told):
    """The lines of the OTHER."""
    return lines_text(desk.twins[told[1]].other())


def lines_text(family):
    """A family's lines as one text."""
    return "; ".join(family_lines(family))


def ask_holds(desk, told):
    """Whether a SET holds."""
    return yes_or_no(does_hold(desk.twins[told[1]].family(), told[2]))


def ask_meets(desk, told):
    """Whether a SET is a meeter."""
    return yes_or_no(is_meeter(desk.twins[told[1]].family(), told[2]))


def yes_or_no(truth):
    """A truth as a text."""
    return "yes" if truth else "no"


def ask_dual(desk, told):
    """Whether two families are each other's."""
    return "dual" if desk.twins[told[1]].other() == desk.twins[told[2]].family() else "parted"


def ask_verdict(desk, told):
    """The first word of the VERDICT."""
    return verdict(desk.twins[told[1]].family())[0]


def set_weights(desk, told):
    """The WEIGHTS from now on."""
    desk.weights = tuple(told[1:])
    return OK


def ask_cheapest(desk, told):
    """The least COST of a meeter."""
    meeter = cheapest(desk.twins[told[1]].family(), desk.weights)
    return NONE if meeter is None else str(cost_of(desk.weights, meeter))


def ask_shared(desk, told):
    """The NUMBER of SHARED papers."""
    paper = shared_told(desk.twins[told[1]].family(), desk.weights)
    if paper is None:
        return NONE
    top, bottom = number_of(paper)
    return str(top) if bottom == 1 else f"{top}/{bottom}"


def ask_even(desk, told):
    """Whether a PAIR is there, and what meeters cost and packs come to."""
    if sum(desk.weights) > MOST_WEIGHT_IN_ALL:
        raise TooMany("weights")
    pair = pair_told(desk.twins[told[1]].family(), desk.weights)
    if pair is None:
        return NONE
    word, meeter, pack = pair
    cost = cost_of(desk.weights, meeter)
    return f"even {cost}" if word == "pair" else f"apart {cost} {size_of(pack)}"


ACTIONS = {
    "new": make_new,
    "copy": make_copy,
    "drop": let_go,
    "names": all_names,
    "put": do_deed,
    "without": do_deed,
    "keep": do_deed,
    "back": go_back,
    "family": tell_family,
    "other": tell_other,
    "holds": ask_holds,
    "meets": ask_meets,
    "dual": ask_dual,
    "verdict": ask_verdict,
    "weigh": set_weights,
    "cheapest": ask_cheapest,
    "shared": ask_shared,
    "even": ask_even,
}


class Desk:
    """At most three families of n places by names, each as a twin, and WEIGHTS."""

    def __init__(self, n):
        self.n = n
        self.twins = {}
        self.weights = (1,) * n

    def say(self, row):
        """The answer to a row; NoRow where it is none, TooMany where the WEIGHTS are too great for it."""
        told = read_row(self.n, list(self.twins), row)
        if told is None:
            raise NoRow(row)
        action = ACTIONS[told[0]]
        return action(self, told)
