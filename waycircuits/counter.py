"""The COUNTER: THE WALKS of FORMS, with what is KNOWN from those ahead ([28] to [30])."""

from waycircuits.laying import Laid, walk_through
from waycircuits.tallying import shown_count
from waycircuits.walking import STEPS


class Counter:
    """Keeps the rows that its asks laid, and knows again what it reckoned."""

    def __init__(self):
        self.laid = Laid()

    def ask(self, form, *, most=STEPS):
        """The triple (count, fresh, known) of the FORM; or NoMore where more rows than most would be laid."""
        laid = self.laid
        ahead = len(laid.rows)
        known = walk_through(laid, form[1], most)
        row = laid.rows[laid.known[form[1]]]
        return (shown_count(form[0], form[1], row[1]), len(laid.rows) - ahead, known)

    def knows(self, clauses):
        """Whether a row of the CLAUSES is KNOWN."""
        return clauses in self.laid.known

    def depth(self):
        """How many WALKS are being done."""
        return len(self.laid.doing)

    def clear(self):
        """Be as a new one."""
        self.laid = Laid()

    def __len__(self):
        return len(self.laid.rows)

    def __str__(self):
        return f"{len(self.laid.rows)} {sum([len(row[0]) for row in self.laid.rows])}"

    def __eq__(self, other):
        return isinstance(other, Counter) and set(self.laid.known) == set(other.laid.known)

    def __ne__(self, other):
        return not self == other
