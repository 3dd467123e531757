"""DIAGRAMS by ranks: 0 for False, 1 for True, those from 2 on for splits, by their numbers ([8]).

So ranks rise as point 8 tells, and none is taken for another one: to Python False is 0, and True is 1.
"""

FALSE = 0
TRUE = 1
FIRST = 2
ENDS = (("false",), ("true",))
ENDS_TURNED = (("true",), ("false",))


def rank_of(side):
    """The rank of a low or a high."""
    return int(side) if isinstance(side, bool) else side + FIRST


def side_of(rank):
    """The low or high of this rank."""
    return rank == TRUE if rank < FIRST else rank - FIRST


def ranked(splits):
    """By ranks triples (name, low, high), both ranks, a list; the two truths have no name and lead to themselves."""
    told = () if isinstance(splits, bool) else splits
    return [("", FALSE, FALSE), ("", TRUE, TRUE), *[(name, rank_of(low), rank_of(high)) for name, low, high in told]]


def circuit_of(diagram, ends=ENDS):
    """The CIRCUIT of the DIAGRAM's NAMES that the same ROWS MEET, its NODES by ranks; a truth is one NODE alone.

    With the ends turned all other ROWS MEET it.
    """
    order, splits = diagram
    names = tuple(sorted(order))
    if isinstance(splits, bool):
        return (names, (ends[rank_of(splits)],))
    return (names, (*ends, *[("split", *triple) for triple in ranked(splits)[FIRST:]]))
