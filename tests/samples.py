"""Things for the tests: strange things, FORMS in plenty, and what points tell, once more and plainly."""

from itertools import combinations, product


def deep(levels, inner=0, kind=tuple):
    """The inner thing, so many tuples (or lists) around it."""
    for _ in range(levels):
        inner = kind([inner])
    return inner


def strange_things():
    """Things of all kinds of point 2 that are hardly ever what is asked."""
    return [
        None, True, False, 0, 1, -1, 10 ** 59, -(10 ** 59), "", " ", "a b", "Ab", "abcdefghi", "~" * 4000,
        [], [()], ["a"], [("a", True)], [(("a", True),)], [(), ()], (None,), (1,), (True,), (0,), ("",),
        ((),), (((),),), ("a", 1), ("a", 0), ("a", "True"), ("a", None), ("a", True, True), (True, "a"),
        ["a", True], (("a",), True), ((), ()), ((), [], ()), ([], []), ([], ()), ((), []), ("void",), ("free",),
        deep(30), deep(30, "a"), deep(30, (), list), deep(29, ("a", True)),
        tuple(range(5000)), ("a",) * 5000, ((),) * 4999, [None] * 5000, tuple([("a", True)] * 1600),
    ]


def words_of(many):
    """So many WORDS, rising."""
    letters = "abcdefghijklmnopqrstuvwxyz"
    return tuple(one + other + third for one in letters for other in letters for third in letters)[:many]


class Mixer:
    """Numbers in a fixed but mixed-up order."""

    def __init__(self, seed):
        self.state = seed * 2654435761 % 2 ** 32

    def below(self, bound):
        self.state = (self.state * 1664525 + 1013904223) % 2 ** 32
        return (self.state >> 8) * bound >> 24


def clauses_over(names):
    """All CLAUSES that there can be over the names, each a tuple, () too, rising."""
    found = []
    for signs in product((None, False, True), repeat=len(names)):
        found.append(tuple((name, sign) for name, sign in zip(names, signs) if sign is not None))
    return sorted(found)


def all_small_forms():
    """Each FORM of the names a, b."""
    clauses = clauses_over(("a", "b"))
    for many in range(len(clauses) + 1):
        for some in combinations(clauses, many):
            yield (("a", "b"), some)


def mixed_form(seed, names=("a", "b", "c", "d", "e", "f"), most=9, size=3):
    """A FORM of the names, of at most so many CLAUSES, each of at most so many LITERALS."""
    mixer = Mixer(seed)
    clauses = set()
    for _ in range(mixer.below(most + 1)):
        picked = {names[mixer.below(len(names))]: bool(mixer.below(2)) for _ in range(1 + mixer.below(size))}
        clauses.add(tuple(sorted(picked.items())))
    return (names, tuple(sorted(clauses)))


def mixed_forms(many, **more):
    """So many FORMS, mixed up."""
    return [mixed_form(seed, **more) for seed in range(many)]


def form_of_threes(seed, many_names, many_clauses):
    """A FORM of so many CLAUSES, each of three LITERALS."""
    mixer, names, clauses = Mixer(seed), words_of(many_names), set()
    while len(clauses) < many_clauses:
        picked = {names[mixer.below(many_names)]: bool(mixer.below(2)) for _ in range(3)}
        if len(picked) == 3:
            clauses.add(tuple(sorted(picked.items())))
    return (names, tuple(sorted(clauses)))


def plain_names(clauses):
    return sorted({name for clause in clauses for name, _ in clause})


def plain_rows(names):
    return [dict(zip(names, row)) for row in product((False, True), repeat=len(names))]


def plain_meets(row, clause):
    return any(row.get(name) is truth for name, truth in clause)


def plain_models(form):
    """The MODELS, as dicts."""
    return [row for row in plain_rows(form[0]) if all(plain_meets(row, clause) for clause in form[1])]


def plain_put(clauses, name, truth):
    left = {frozenset(clause) - {(name, not truth)} for clause in clauses if (name, truth) not in clause}
    return tuple(sorted(tuple(sorted(clause)) for clause in left))


def plain_groups(clauses):
    """GROUPS by joining, over and over, two that have a name in common."""
    parts = [[clause] for clause in clauses]
    joining = True
    while joining:
        joining = False
        for one, other in combinations(range(len(parts)), 2):
            if set(plain_names(parts[one])) & set(plain_names(parts[other])):
                parts[one] += parts.pop(other)
                joining = True
                break
    return tuple(sorted((tuple(sorted(part)) for part in parts), key=lambda part: plain_names(part)[:1]))


def plain_walk(clauses, rows, known):
    """THE WALK by calls within calls; tells the number of the row."""
    if clauses in known:
        return known[clauses]
    names = plain_names(clauses)
    units = sorted(clause[0] for clause in clauses if len(clause) == 1)

    def need(left):
        number = plain_walk(left, rows, known)
        lost = [name for name in names if name not in plain_names(left)]
        return number, rows[number][1] * 2 ** (len(lost) - 1)

    if () in clauses:
        row = (clauses, 0, ("void",))
    elif not clauses:
        row = (clauses, 1, ("free",))
    elif units:
        number, count = need(plain_put(clauses, *units[0]))
        row = (clauses, count, ("unit", units[0], number))
    elif len(plain_groups(clauses)) > 1:
        numbers = tuple(plain_walk(part, rows, known) for part in plain_groups(clauses))
        count = 1
        for number in numbers:
            count *= rows[number][1]
        row = (clauses, count, ("parts", numbers))
    else:
        often = {name: sum(name in dict(clause) for clause in clauses) for name in names}
        name = min(names, key=lambda one: (-often[one], one))
        low, low_count = need(plain_put(clauses, name, False))
        high, high_count = need(plain_put(clauses, name, True))
        row = (clauses, low_count + high_count, ("split", name, low, high))
    known[clauses] = len(rows)
    rows.append(row)
    return known[clauses]


def plain_shown_rows(form, shown):
    """The SHOWN ROWS, a set of tuples."""
    return {tuple(row[name] for name in shown) for row in plain_models(form)}


def plain_projected_walk(clauses, shown, rows, known):
    """The walk of shown names by calls within calls, all but the literals of "model"; tells the number of the row."""
    if clauses in known:
        return known[clauses]
    names = plain_names(clauses)
    units = sorted(clause[0] for clause in clauses if len(clause) == 1)
    seen = [name for name in names if name in shown]

    def need(name, truth):
        left = plain_put(clauses, name, truth)
        number = plain_projected_walk(left, shown, rows, known)
        lost = [one for one in seen if one != name and one not in plain_names(left)]
        return number, rows[number][1] * 2 ** len(lost)

    if () in clauses:
        row = (clauses, 0, ("void",))
    elif not clauses:
        row = (clauses, 1, ("free",))
    elif not seen:
        met = bool(plain_models((tuple(names), clauses)))
        row = (clauses, 1, ("model",)) if met else (clauses, 0, ("never", plain_trail((tuple(names), clauses))))
    elif units:
        number, count = need(*units[0])
        row = (clauses, count, ("unit", units[0], number))
    elif len(plain_groups(clauses)) > 1:
        numbers = tuple(plain_projected_walk(part, shown, rows, known) for part in plain_groups(clauses))
        count = 1
        for number in numbers:
            count *= rows[number][1]
        row = (clauses, count, ("parts", numbers))
    else:
        often = {name: sum(name in dict(clause) for clause in clauses) for name in seen}
        name = min(seen, key=lambda one: (-often[one], one))
        (low, low_count), (high, high_count) = need(name, False), need(name, True)
        row = (clauses, low_count + high_count, ("split", name, low, high))
    known[clauses] = len(rows)
    rows.append(row)
    return known[clauses]


def plain_projected(form, shown):
    """The PROJECTED TRAIL, all but the literals of "model"."""
    rows = []
    plain_projected_walk(form[1], shown, rows, {})
    return tuple(rows)


def some_of(seed, names):
    """Some of the names, as they stand, none or all of them too."""
    mixer = Mixer(seed + 9)
    return tuple(name for name in names if mixer.below(2))


def plain_trail(form):
    """The TRAIL by THE WALK."""
    rows = []
    plain_walk(form[1], rows, {})
    return tuple(rows)
