"""How many SHOWN ROWS there are, and a PROJECTED TRAIL that SHOWS it ([34])."""

from waycircuits.laying import laid_rows
from waycircuits.naming import look_for_names
from waycircuits.tallying import shown_count
from waycircuits.walking import STEPS


def projected(form, shown, *, most=STEPS):
    """The pair of how many SHOWN ROWS the FORM has, and of a PROJECTED TRAIL; or NoName, NoMore."""
    look_for_names(form[0], shown)
    rows = laid_rows(form[1], most, {name: True for name in shown})
    return (shown_count(shown, form[1], rows[-1][1]), tuple(rows))
