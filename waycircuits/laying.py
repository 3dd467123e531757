"""THE WALK of CLAUSES ([6]), done step by step: rows are laid, each behind those that it needs.

A list of WALKS that are being done stands in the place of calls within calls: a WALK may go
down by as many names as there are, which may be hundreds.
"""

from waycircuits.errors import NoMore
from waycircuits.forms import names_in
from waycircuits.grouping import groups
from waycircuits.putting import put
from waycircuits.tallying import row_count


class Laid:
    """Rows that were laid, of KNOWN clauses the numbers of their rows, and the WALKS that are being done."""

    def __init__(self):
        self.rows = []
        self.known = {}
        self.doing = []


class Walk:
    """The WALK of some clauses: its rule but for the numbers, what clauses it needs, how many of them it came to."""

    def __init__(self, clauses):
        self.clauses = clauses
        self.rule, self.needs = step_of(clauses)
        self.reached = 0


def walk_through(laid, clauses, most):
    """Do THE WALK of the clauses, and tell how many WALKS in it ended at once at a KNOWN row.

    Refused with NoMore where it would lay more rows than most, which None doesn't bound.
    """
    ahead = len(laid.rows)
    ended = begin(laid, clauses)
    while laid.doing:
        walk = laid.doing[-1]
        if walk.reached < len(walk.needs):
            walk.reached += 1
            ended += begin(laid, walk.needs[walk.reached - 1])
        elif most is not None and len(laid.rows) - ahead >= most:
            laid.doing = []
            raise NoMore(most)
        else:
            lay(laid, laid.doing.pop())
    return ended


def begin(laid, clauses):
    """Begin the WALK of the clauses, where no row of them is KNOWN; tell 1 where one is, else 0."""
    if clauses in laid.known:
        return 1
    laid.doing.append(Walk(clauses))
    return 0


def lay(laid, walk):
    """Lay the row of a WALK, of which rows of all that it needs are KNOWN."""
    rule = numbered(walk.rule, [laid.known[need] for need in walk.needs])
    row = (walk.clauses, row_count(walk.clauses, rule, laid.rows), rule)
    laid.known[walk.clauses] = len(laid.rows)
    laid.rows.append(row)


def numbered(rule, numbers):
    """The rule with the numbers of the rows that it needs."""
    if rule[0] == "parts":
        return ("parts", tuple(numbers))
    return (*rule, *numbers)


def step_of(clauses):
    """The first rule that can be, without numbers, and a tuple of the clauses whose rows it needs, in order.

    CLAUSES rise: so a () is the first of them, and of the CLAUSES of one LITERAL the first has the least.
    """
    if not clauses:
        return (("free",), ())
    if not clauses[0]:
        return (("void",), ())
    units = [clause[0] for clause in clauses if len(clause) == 1]
    if units:
        return (("unit", units[0]), (put(clauses, units[0]),))
    parts = groups(clauses)
    if len(parts) > 1:
        return (("parts",), parts)
    name = commonest(clauses)
    return (("split", name), (put(clauses, (name, False)), put(clauses, (name, True))))


def commonest(clauses):
    """The name that stands in most of the clauses, of like ones the least."""
    counts = {name: 0 for name in names_in(clauses)}
    for clause in clauses:
        for name, _ in clause:
            counts[name] += 1
    most = max(counts.values())
    return [name for name in counts if counts[name] == most][0]


def laid_rows(clauses, most):
    """The rows that THE WALK of the clauses lays where nothing is KNOWN at first, a list; or NoMore."""
    laid = Laid()
    walk_through(laid, clauses, most)
    return laid.rows
