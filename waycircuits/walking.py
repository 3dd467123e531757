"""The TRAIL that THE WALK lays of a FORM, and the COUNT that it SHOWS ([27])."""

from waycircuits.laying import laid_rows
from waycircuits.tallying import shown_count

STEPS = 4000


def trail_of(form, *, most=STEPS):
    """The TRAIL of the FORM by THE WALK; or NoMore where it has more rows than most."""
    return tuple(laid_rows(form[1], most))


def counted(form, *, most=STEPS):
    """The COUNT of the FORM by THE WALK; or NoMore as of the TRAIL."""
    return shown_count(form[0], form[1], laid_rows(form[1], most)[-1][1])
