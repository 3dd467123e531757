"""LITERALS that settle clauses, by their TRAIL ([32], [34])."""


def model_by(rows):
    """LITERALS, rising, one of which each CLAUSE of a TRAIL's last row has; the count of that row isn't 0."""
    literals = []
    needed = {len(rows) - 1: True}
    for number in reversed(range(len(rows))):
        if number in needed:
            chosen, numbers = step_down(rows[number][2], rows)
            literals.extend(chosen)
            needed.update({other: True for other in numbers})
    return tuple(sorted(literals))


def step_down(rule, rows):
    """What a rule PUTS, and the numbers of rows to go on with, of a "split" one whose count isn't 0."""
    kind = rule[0]
    if kind == "unit":
        return ([rule[1]], [rule[2]])
    if kind == "parts":
        return ([], rule[1])
    if kind == "split":
        _, name, low, high = rule
        truth = rows[low][1] == 0
        return ([(name, truth)], [high if truth else low])
    return ([], ())
