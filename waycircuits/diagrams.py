"""DIAGRAMS: whether any thing is a REDUCED one, whether a ROW MEETS one, its COUNT ([8], [61])."""

from waycircuits.counting import circuit_count
from waycircuits.ranks import circuit_of, rank_of
from waycircuits.words import is_number, is_word, rises


def is_diagram(thing):
    """Whether the thing is a REDUCED DIAGRAM."""
    if not isinstance(thing, tuple) or len(thing) != 2:
        return False
    order, splits = thing
    if not is_order(order):
        return False
    if isinstance(splits, bool):
        return True
    places = {name: at for at, name in enumerate(order)}
    return are_splits(splits, places) and are_reduced(splits, places)


def is_order(thing):
    """Whether the thing is an ORDER of some NAMES: a tuple of unlike WORDS."""
    if not isinstance(thing, tuple) or not all([is_word(name) for name in thing]):
        return False
    return len(set(thing)) == len(thing)


def are_splits(thing, places):
    """Whether the thing is a tuple of splits by kind, one or more, of names that have places, a dict."""
    if not isinstance(thing, tuple) or not thing:
        return False
    return all([is_split(split, number, places) for number, split in enumerate(thing)])


def is_split(thing, number, places):
    """Whether the thing is a split by kind that may have this number, of a name that has a place."""
    if not isinstance(thing, tuple) or len(thing) != 3:
        return False
    name, low, high = thing
    if not is_word(name) or name not in places:
        return False
    return is_side(low, number) and is_side(high, number)


def is_side(thing, number):
    """Whether the thing is False, True, or the number of a split ahead of this one."""
    return isinstance(thing, bool) or (is_number(thing) and 0 <= thing < number)


def are_reduced(splits, places):
    """Whether splits are REDUCED: they rise as told, so no two are alike, and it is so of each what is asked of it."""
    keys = [(-places[name], rank_of(low), rank_of(high)) for name, low, high in splits]
    return rises(keys) and all([leads_on(split, splits, places) for split in splits]) and are_come_to(splits)


def leads_on(split, splits, places):
    """Whether the sides of the split are unlike, and have names that stand in the ORDER behind its own."""
    name, low, high = split
    inner = [splits[side] for side in (low, high) if not isinstance(side, bool)]
    return rank_of(low) != rank_of(high) and all([places[name] < places[other[0]] for other in inner])


def are_come_to(splits):
    """Whether each split but the last is led to by one behind it, and so is come to from the ROOT."""
    found = {rank_of(side): True for _, *sides in splits for side in sides}
    return all([rank_of(number) in found for number in range(len(splits) - 1)])


def diagram_met(diagram, row):
    """Whether the ROW of its NAMES, as they rise, MEETS the DIAGRAM."""
    return leads_to_true(diagram, dict(zip(sorted(diagram[0]), row)))


def leads_to_true(diagram, truths):
    """Whether names of these truths, a dict, lead from the ROOT to True."""
    splits = diagram[1]
    side = splits if isinstance(splits, bool) else len(splits) - 1
    while not isinstance(side, bool):
        name, low, high = splits[side]
        side = high if truths[name] else low
    return side


def diagram_count(diagram):
    """How many ROWS of its NAMES MEET the DIAGRAM."""
    return circuit_count(circuit_of(diagram))
