"""What is asked of what stands: the COUNT, the WEIGHT, how many ROWS of the SHOWN names are completed ([74])."""

from waycircuits.compiling import compiled
from waycircuits.counting import weighed
from waycircuits.fractions import ONE
from waycircuits.showing import projected
from waycircuits.views import form_at, shown_at, weights_at
from waycircuits.walking import STEPS, counted


def count_at(book, until=None, *, most=STEPS):
    """The COUNT of the FORM that stands; or NoMore."""
    return counted(form_at(book, until), most=most)


def shown_count_at(book, until=None, *, most=STEPS):
    """How many ROWS of the SHOWN names some ROW of the others completes to a MODEL; or NoMore."""
    return projected(form_at(book, until), shown_at(book, until), most=most)[0]


def weight_at(book, until=None, *, free=ONE):
    """The WEIGHTS of all MODELS of the FORM that stands, added.

    A FORM that stands may have too many names for going through all ROWS, so its CIRCUIT is weighed.
    """
    return weighed(compiled(form_at(book, until)), weights_at(book, until), free=free)
