"""CIRCUITS for the tests: by kind alone, WELL BUILT ones, and what points tell of them, once more and plainly."""

from fractions import Fraction
from itertools import combinations, product

from tests.samples import Mixer, mixed_form
from waycircuits.circuits import is_circuit
from waycircuits.compiling import compiled

NAMES = ("a", "b", "c", "d", "e")


def node_inner(node):
    return {"and": lambda: node[1], "or": lambda: node[1], "split": lambda: node[2:]}.get(node[0], tuple)()


def plain_come_to(nodes, number):
    """The numbers of a NODE and of those that it comes to, a set, by going on until nothing is new."""
    found, waiting = set(), [number]
    while waiting:
        top = waiting.pop()
        if top not in found:
            found.add(top)
            waiting += node_inner(nodes[top])
    return found


def plain_under(circuit, number):
    nodes = circuit[1]
    return {nodes[one][1] for one in plain_come_to(nodes, number) if nodes[one][0] in ("literal", "split")}


def plain_met(nodes, number, row, known=None):
    """Whether the row, a dict, MEETS the NODE, by calls within calls."""
    known = {} if known is None else known
    if number not in known:
        node = nodes[number]
        inner = [plain_met(nodes, one, row, known) for one in node_inner(node)]
        known[number] = {
            "true": lambda: True, "false": lambda: False, "literal": lambda: row[node[1]] is node[2],
            "and": lambda: all(inner), "or": lambda: any(inner), "split": lambda: inner[row[node[1]]]}[node[0]]()
    return known[number]


def plain_refuted(nodes, number, truths, known=None):
    """Whether the NODE is REFUTED by the truths, a dict, by calls within calls."""
    known = {} if known is None else known
    if number not in known:
        node = nodes[number]
        inner = [plain_refuted(nodes, one, truths, known) for one in node_inner(node)]
        known[number] = {
            "true": lambda: False, "false": lambda: True, "literal": lambda: truths.get(node[1]) is (not node[2]),
            "and": lambda: any(inner), "or": lambda: all(inner),
            "split": lambda: inner[truths[node[1]]] if node[1] in truths else all(inner)}[node[0]]()
    return known[number]


def plain_rows_of(names):
    return [dict(zip(names, row)) for row in product((False, True), repeat=len(names))]


def plain_ways(circuit):
    """The MODELS of a CIRCUIT, as ROWS, rising."""
    names, nodes = circuit
    return [tuple(row.values()) for row in plain_rows_of(names) if plain_met(nodes, len(nodes) - 1, row)]


def plain_decomposed(circuit):
    nodes = circuit[1]
    for number in plain_come_to(nodes, len(nodes) - 1):
        node = nodes[number]
        if node[0] == "and":
            under = [plain_under(circuit, one) for one in node[1]]
            if any(one & other for one, other in combinations(under, 2)):
                return False
        if node[0] == "split" and any(node[1] in plain_under(circuit, one) for one in node[2:]):
            return False
    return True


def plain_astray(nodes, pair, tree, truths=(), way=()):
    """The WAY to the first end whose NODE isn't REFUTED, by calls within calls; None where there is none."""
    truths = dict(truths)
    if tree[0] == "out":
        return None if plain_refuted(nodes, pair[tree[1]], truths) else way
    for turn in (0, 1):
        if truths.get(tree[1], bool(turn)) is bool(turn):
            found = plain_astray(nodes, pair, tree[2 + turn], {**truths, tree[1]: bool(turn)}, (*way, turn))
            if found is not None:
                return found
    return None


def plain_parted(circuit):
    """None where the CIRCUIT is PARTED, else the place of the first CASE TREE that isn't let by."""
    nodes = circuit[1]
    for number in sorted(plain_come_to(nodes, len(nodes) - 1)):
        if nodes[number][0] == "or":
            for at, (pair, tree) in enumerate(zip(combinations(nodes[number][1], 2), nodes[number][2])):
                way = plain_astray(nodes, pair, tree)
                if way is not None:
                    return (number, at, *way)
    return None


def plain_tree(names, nodes, pair, truths=()):
    """A CASE TREE of two NODES that no ROW MEETS both, by the names in their order."""
    truths = dict(truths)
    for at in (0, 1):
        if plain_refuted(nodes, pair[at], truths):
            return ("out", at)
    return ("case", names[0], *(plain_tree(names[1:], nodes, pair, {**truths, names[0]: truth}) for truth in (False, True)))


def any_tree(mixer, names, depth=3):
    """A CASE TREE by kind."""
    if depth and names and mixer.below(2):
        return ("case", names[mixer.below(len(names))], any_tree(mixer, names, depth - 1), any_tree(mixer, names, depth - 1))
    return ("out", mixer.below(2))


def any_node(mixer, names, number):
    """A NODE by kind that may have this number."""
    kind = ("true", "false", "literal", "and", "split", "or", "and", "split", "or", "literal")[mixer.below(10)]
    if kind in ("literal", "split") and not names:
        kind = "true"
    if kind == "split" and not number:
        kind = "literal"
    name = names[mixer.below(len(names))] if names else None
    if kind == "literal":
        return ("literal", name, bool(mixer.below(2)))
    if kind == "split":
        return ("split", name, mixer.below(number), mixer.below(number))
    some = tuple(mixer.below(number) for _ in range(mixer.below(4))) if number else ()
    if kind == "and":
        return ("and", some)
    if kind == "or":
        return ("or", some, tuple(any_tree(mixer, names) for _ in combinations(some, 2)))
    return (kind,)


def any_circuit(seed, names=NAMES, most=14):
    """A CIRCUIT by kind alone."""
    mixer = Mixer(seed + 77)
    nodes = []
    for number in range(1 + mixer.below(most)):
        nodes.append(any_node(mixer, names, number))
    return (names, tuple(nodes))


class Builder:
    """Lays NODES of a WELL BUILT CIRCUIT, mixed up, between some that aren't REACHED."""

    def __init__(self, seed, names):
        self.mixer, self.names, self.nodes = Mixer(seed + 501), names, []

    def lay(self, node):
        if self.mixer.below(5) == 0:
            self.nodes.append(any_node(self.mixer, self.names, len(self.nodes)))
        self.nodes.append(node)
        return len(self.nodes) - 1

    def build(self, names, depth):
        """The number of a NODE with some of these NAMES UNDER it."""
        kind = self.mixer.below(8) if depth and names else self.mixer.below(6) // 2 - 1
        if kind < 1 or not names:
            return self.lay((("true",), ("true",), ("false",))[kind + 1])
        name = names[self.mixer.below(len(names))]
        others = tuple(other for other in names if other != name)
        if kind == 1:
            return self.lay(("literal", name, bool(self.mixer.below(2))))
        if kind < 4:
            sides = {other: self.mixer.below(3) for other in names}
            return self.lay(("and", tuple(
                self.build(tuple(other for other in names if sides[other] == side), depth - 1) for side in range(3))))
        if kind < 6:
            return self.lay(("split", name, self.build(others, depth - 1), self.build(others, depth - 1)))
        return self.build_or(names, depth)

    def build_or(self, names, depth):
        some = []
        for number in [self.build(names, depth - 1) for _ in range(4)]:
            if not any(self.both(number, other) for other in some):
                some.append(number)
                if self.mixer.below(3) == 0 and not self.both(number, number):
                    some.append(number)
        return self.lay(("or", tuple(some), tuple(plain_tree(self.names, self.nodes, pair) for pair in combinations(some, 2))))

    def both(self, one, other):
        """Whether some ROW MEETS both NODES."""
        return any(
            plain_met(self.nodes, one, row) and plain_met(self.nodes, other, row) for row in plain_rows_of(self.names))


def built_circuit(seed, names=NAMES, depth=4):
    """A WELL BUILT CIRCUIT, with "or" NODES, names that stand in no NODE, and NODES that aren't REACHED."""
    builder = Builder(seed, names)
    builder.build(names, depth)
    return (names, tuple(builder.nodes))


def built_circuits(many, **more):
    return [built_circuit(seed, **more) for seed in range(many)]


def compiled_circuits(many, **more):
    return [compiled(mixed_form(seed, **more)) for seed in range(many)]


def chain_circuit(top=("true",), many=119):
    """A NODE, and behind it NODES each of which has the one ahead twice: ever more places, no more NODES."""
    return ((), (top, *[("and", (number, number)) for number in range(many)]))


WEIGHTS = (
    ("a", (1, 2), (-3, 4)), ("c", (0, 1), (5, 1)), ("d", (-2, 3), (-2, 3)), ("e", (7, 2), (-5, 1)), ("zz", (9, 1), (9, 1)))
FREES = ((1, 1), (0, 1), (-2, 3))


def plain_pairs(names, weights, free):
    """Of each name what it weighs False, True, as Fractions."""
    told = {name: (Fraction(*no), Fraction(*yes)) for name, no, yes in weights}
    return {name: told.get(name, (Fraction(*free), Fraction(*free))) for name in names}


def plain_weight_of(names, row, weights, free):
    weight = Fraction(1)
    for (no, yes), truth in zip(plain_pairs(names, weights, free).values(), row):
        weight *= yes if truth else no
    return weight


def as_pair(fraction):
    return (fraction.numerator, fraction.denominator)


def plain_times(one, other):
    """Two STRETCHES multiplied."""
    ends = [first * second for first in one for second in other]
    return (min(ends), max(ends))


def plain_sides(circuit, number, bounds, pairs):
    """The STRETCHES that BOUNDS of a NODE have to have in them, from left to right; bounds are of Fractions."""
    node = circuit[1][number]
    point = (Fraction(1), Fraction(1))
    if node[0] == "true":
        return [point]
    if node[0] == "literal":
        return [(pairs[node[1]][node[2]],) * 2]
    if node[0] == "and":
        for one in node[1]:
            point = point and bounds[one] and plain_times(point, bounds[one])
        return [point] if point else []
    found = []
    for turn, side in enumerate(node_inner(node)):
        if bounds[side] is not None:
            free = plain_under(circuit, number) - plain_under(circuit, side)
            stretch = bounds[side]
            if node[0] == "split":
                stretch = plain_times(stretch, (pairs[node[1]][turn],) * 2)
                free.discard(node[1])
            for name in free:
                stretch = plain_times(stretch, (min(pairs[name]), max(pairs[name])))
            found.append(stretch)
    return found


def plain_fault(circuit, weights, free, bounds):
    """The number of the first NODE whose BOUNDS don't HOLD, None where all do."""
    names, nodes = circuit
    pairs = plain_pairs(names, weights, free)
    told = [None if bound is None else (Fraction(*bound[0]), Fraction(*bound[1])) for bound in bounds]
    for number in range(len(nodes)):
        sides = plain_sides(circuit, number, told, pairs)
        bound = told[number]
        if bound is None:
            if sides:
                return number
        elif bound[0] > bound[1] or not all(bound[0] <= least and most <= bound[1] for least, most in sides):
            return number
    return None


def plain_reach(circuit, weights, free, bounds):
    """The REACH by these BOUNDS, of Fractions; the ROOT's aren't None."""
    pairs = plain_pairs(circuit[0], weights, free)
    reach = tuple(Fraction(*end) for end in bounds[-1])
    for name in set(circuit[0]) - plain_under(circuit, len(bounds) - 1):
        reach = plain_times(reach, (min(pairs[name]), max(pairs[name])))
    return reach


def plain_turned(circuit, names):
    """The CIRCUIT TURNED by forgotten names, its "or" NODES without papers."""
    def turn(node):
        if node[0] in ("literal", "split") and node[1] in names:
            return ("true",) if node[0] == "literal" else ("or", node[2:])
        return node[:2] if node[0] == "or" else node
    return (tuple(name for name in circuit[0] if name not in names), tuple(turn(node) for node in circuit[1]))


def plain_unparted(circuit):
    """The least REACHED "or" two of whose nodes a ROW MEETS both, with all such ROWS; None where there is none."""
    names, nodes = circuit
    for number in sorted(plain_come_to(nodes, len(nodes) - 1)):
        if nodes[number][0] == "or":
            rows = [tuple(row.values()) for row in plain_rows_of(names)
                    if sum(plain_met(nodes, inner, row) for inner in nodes[number][1]) > 1]
            if rows:
                return number, rows
    return None


def well_built(circuit):
    """Whether the thing is a WELL BUILT CIRCUIT, by the plain ways."""
    return is_circuit(circuit) and plain_decomposed(circuit) and plain_parted(circuit) is None


def some_circuits():
    """WELL BUILT CIRCUITS of all sorts, ones without MODELS among them."""
    forms = [((), ()), ((), ((),)), (("a",), ()), (("a", "b"), ((("a", True),), (("b", False),)))]
    return [
        *built_circuits(70), *built_circuits(20, names=("a", "b")), *compiled_circuits(40), *map(compiled, forms),
        *compiled_circuits(20, names=NAMES, most=3), chain_circuit(), chain_circuit(("false",)), ((), (("or", (), ()),))]
