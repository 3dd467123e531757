"""What the MODELS of a CIRCUIT weigh, added, by whole numbers: of each name a pair, what it weighs False, True.

Where the CIRCUIT is WELL BUILT no ROW MEETS two sides of a NODE, and nodes of an "and" have no name in common: so
sides are added, and what stands in one is multiplied.
"""


def pairs_with(names, literals):
    """Pairs by which just the MODELS are counted that HAVE these LITERALS, of unlike names: a dict."""
    pairs = {name: (1, 1) for name in names}
    for name, truth in literals:
        pairs[name] = pair_with(truth)
    return pairs


def pair_with(truth):
    """The pair of a name that is to have this truth."""
    return (0, 1) if truth else (1, 0)


def total_by(sides, pairs):
    """What all MODELS weigh, added, of a CIRCUIT of which the sides of the REACHED NODES are told."""
    totals = {}
    total = 0
    for number in sides:
        total = sum([total_of_side(side, totals, pairs) for side in sides[number]])
        totals[number] = total
    return total


def total_of_side(side, totals, pairs):
    """What a side weighs, by what NODES do that it is made of."""
    numbers, literals, free = side
    total = 1
    for number in numbers:
        total = total * totals[number]
    for name, truth in literals:
        no, yes = pairs[name]
        total = total * (yes if truth else no)
    for name in free:
        no, yes = pairs[name]
        total = total * (no + yes)
    return total


def row_at(sides, pairs, number):
    """The MODEL that so many others are ahead of, of those that the pairs, each of 0 and 1, count; there is one."""
    asked = {name: pairs[name] for name in pairs}
    truths = []
    left = number
    for name in pairs:
        no, yes = pairs[name]
        asked[name] = (no, 0)
        many = total_by(sides, asked)
        truths.append(left >= many)
        if left >= many:
            left -= many
            asked[name] = (0, yes)
    return tuple(truths)
