"""DIAGRAMS for the tests, and what points tell of them, once more and plainly."""

from itertools import permutations, product

from tests.samples import Mixer, mixed_form, plain_models

NAMES = ("a", "b", "c", "d", "e")
ORDERS = (NAMES, NAMES[::-1], ("c", "a", "e", "b", "d"))


def rank(side):
    """False ahead of True ahead of NUMBERS."""
    return int(side) if isinstance(side, bool) else side + 2


def kinds(splits):
    """What splits are with the kinds of their things, as to Python False is 0 and True is 1."""
    if isinstance(splits, bool):
        return splits
    return tuple((name, type(low).__name__, low, type(high).__name__, high) for name, low, high in splits)


def all_ways(names):
    return list(product((False, True), repeat=len(names)))


def plain_diagram(order, rows):
    """The REDUCED DIAGRAM along the ORDER met by just these ROWS of the NAMES, a set, by what is left behind heads."""
    names = tuple(sorted(order))
    table = []
    for way in all_ways(order):
        truths = dict(zip(order, way))
        table.append(tuple(truths[name] for name in names) in rows)
    levels = [{tuple(table)}]
    for _ in order:
        levels.append({half for whole in levels[-1] for half in (whole[:len(whole) // 2], whole[len(whole) // 2:])})
    sides = {whole: whole[0] for whole in levels[-1]}
    splits = []
    for name, level in list(zip(order, levels))[::-1]:
        found = {whole: (sides[whole[:len(whole) // 2]], sides[whole[len(whole) // 2:]]) for whole in level}
        made = sorted({(rank(low), rank(high)) for low, high in found.values() if rank(low) != rank(high)})
        pairs = {pair: len(splits) + at for at, pair in enumerate(made)}
        told = {(rank(low), rank(high)): (name, low, high) for low, high in found.values()}
        splits += [told[pair] for pair in made]
        sides = {whole: pairs.get((rank(low), rank(high)), low) for whole, (low, high) in found.items()}
    root = sides[tuple(table)]
    return (tuple(order), root if isinstance(root, bool) else tuple(splits))


def plain_met_rows(diagram):
    """The ROWS of the NAMES, as they rise, that MEET a DIAGRAM, a set."""
    order, splits = diagram
    names = tuple(sorted(order))
    found = set()
    for way in all_ways(names):
        truths, side = dict(zip(names, way)), splits if isinstance(splits, bool) else len(splits) - 1
        while not isinstance(side, bool):
            name, low, high = splits[side]
            side = high if truths[name] else low
        if side:
            found.add(way)
    return found


def some_rows(seed, names=NAMES):
    """Some ROWS of the names, a set: none, all, or some mixed up, few or many."""
    mixer = Mixer(seed + 11)
    share = (0, 1, 3, 6, 10, 16)[mixer.below(6)]
    ways = [way for way in all_ways(names) if mixer.below(10) < share]
    if mixer.below(2):
        ways = [tuple(row.values()) for row in plain_models(mixed_form(seed, names=names, most=6))]
    return set(ways)


def some_diagrams(many=60, orders=ORDERS, names=NAMES):
    """REDUCED DIAGRAMS of the same NAMES, along each of the ORDERS in turn."""
    return [plain_diagram(orders[seed % len(orders)], some_rows(seed, names)) for seed in range(many)]


def all_small_diagrams(order):
    """The DIAGRAM of each set of ROWS of two names."""
    ways = all_ways(order)
    return [plain_diagram(order, {way for way, truth in zip(ways, told) if truth})
            for told in product((False, True), repeat=len(ways))]


def all_orders(names):
    return list(permutations(names))
