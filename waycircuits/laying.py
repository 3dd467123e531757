"""THE WALK of CLAUSES ([6]), and that of shown names ([34]): rows are laid, each behind those that it needs.

A list of WALKS that are being done stands in the place of calls within calls: a WALK may go
down by as many names as there are, which may be hundreds.
"""

from waycircuits.errors import NoMore
from waycircuits.forms import names_in
from waycircuits.grouping import groups
from waycircuits.putting import put
from waycircuits.settling import model_by
from waycircuits.tallying import row_count, shown_among


class Laid:
    """Rows that were laid, of KNOWN clauses the numbers of their rows, and the WALKS that are being done.

    Names that are shown are a dict's keys; None shows all, and the WALKS are as THE WALK tells.
    """

    def __init__(self, shown=None):
        self.shown = shown
        self.rows = []
        self.known = {}
        self.doing = []


class Walk:
    """The WALK of some clauses: its rule but for the numbers, what clauses it needs, how many of them it came to."""

    def __init__(self, clauses, shown):
        self.clauses = clauses
        self.rule, self.needs = step_of(clauses, shown)
        self.reached = 0


def walk_through(laid, clauses, most):
    """Do THE WALK of the clauses, and tell how many WALKS in it ended at once at a KNOWN row.

    Refused with NoMore where it would lay more rows than most, which None doesn't bound.
    """
    ahead = len(laid.rows)
    ended = begin(laid, clauses)
    while laid.doing:
        walk = laid.doing[-1]
        if walk.reached < len(walk.needs):
            walk.reached += 1
            ended += begin(laid, walk.needs[walk.reached - 1])
        elif most is not None and len(laid.rows) - ahead >= most:
            laid.doing = []
            raise NoMore(most)
        else:
            lay(laid, laid.doing.pop())
    return ended


def begin(laid, clauses):
    """Begin the WALK of the clauses, where no row of them is KNOWN; tell 1 where one is, else 0."""
    if clauses in laid.known:
        return 1
    laid.doing.append(Walk(clauses, laid.shown))
    return 0


def lay(laid, walk):
    """Lay the row of a WALK, of which rows of all that it needs are KNOWN."""
    if walk.rule[0] == "hidden":
        rule = settled(walk.clauses)
    else:
        rule = numbered(walk.rule, [laid.known[need] for need in walk.needs])
    row = (walk.clauses, row_count(walk.clauses, rule, laid.rows, laid.shown), rule)
    laid.known[walk.clauses] = len(laid.rows)
    laid.rows.append(row)


def numbered(rule, numbers):
    """The rule with the numbers of the rows that it needs."""
    if rule[0] == "parts":
        return ("parts", tuple(numbers))
    return (*rule, *numbers)


def settled(clauses):
    """The rule "model" or "never" of clauses without shown names, by a WALK of its own, however many rows that has."""
    rows = laid_rows(clauses, None)
    if rows[-1][1] == 0:
        return ("never", tuple(rows))
    return ("model", model_by(rows))


def step_of(clauses, shown):
    """The first rule that can be, without numbers, and a tuple of the clauses whose rows it needs, in order.

    CLAUSES rise: so a () is the first of them, and of the CLAUSES of one LITERAL the first has the least.
    "hidden" stands for "model" or "never": which one, is found where the row is laid.
    """
    if not clauses:
        return (("free",), ())
    if not clauses[0]:
        return (("void",), ())
    names = shown_among(names_in(clauses), shown)
    if not names:
        return (("hidden",), ())
    units = [clause[0] for clause in clauses if len(clause) == 1]
    if units:
        return (("unit", units[0]), (put(clauses, units[0]),))
    parts = groups(clauses)
    if len(parts) > 1:
        return (("parts",), parts)
    name = commonest(clauses, names)
    return (("split", name), (put(clauses, (name, False)), put(clauses, (name, True))))


def commonest(clauses, names):
    """The one of the names, which rise, that stands in most of the clauses, of like ones the least."""
    counts = {name: 0 for name in names}
    for clause in clauses:
        for name, _ in clause:
            if name in counts:
                counts[name] += 1
    most = max(counts.values())
    return [name for name in counts if counts[name] == most][0]


def laid_rows(clauses, most, shown=None):
    """The rows that the WALK of the clauses lays where nothing is KNOWN at first, a list; or NoMore."""
    laid = Laid(shown)
    walk_through(laid, clauses, most)
    return laid.rows
