"""NUMBERS, MOMENTS, FRACTIONS, CLAUSES that words of lines are read as; None where a word can't be one ([76], [77])."""

from waycircuits.fractions import is_fraction
from waycircuits.literals import is_clause
from waycircuits.pages import is_moment

MOST_FIGURES = 9


def number_in(word):
    """The NUMBER from 0 on of these figures, at most nine, no 0 ahead."""
    if not 1 <= len(word) <= MOST_FIGURES or not all(["0" <= sign <= "9" for sign in word]):
        return None
    if word.startswith("0") and word != "0":
        return None
    return int(word)


def moment_in(word):
    """The MOMENT that is written day.number."""
    day, _, number = word.partition(".")
    moment = (number_in(day), number_in(number))
    return moment if is_moment(moment) else None


def fraction_in(word):
    """The FRACTION that is written over/under, in lowest terms."""
    written, _, below = word.partition("/")
    over = number_in(written.removeprefix("-"))
    if written.startswith("-"):
        # nought has no sign
        over = -over if over else None
    fraction = (over, number_in(below))
    return fraction if is_fraction(fraction) else None


def clause_in(word):
    """The CLAUSE with commas between its LITERALS, that rise, ! of none."""
    if word == "!":
        return ()
    clause = tuple([(part.removeprefix("-"), not part.startswith("-")) for part in word.split(",")])
    return clause if is_clause(clause) else None
