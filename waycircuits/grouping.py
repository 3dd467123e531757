"""GROUPS of CLAUSES ([5], [13])."""


def groups(clauses):
    """The GROUPS of the CLAUSES, a tuple of CLAUSES.

    CLAUSES rise, so the first of a group begins with the least name of it: groups that are
    begun clause by clause stand by the least of their names, and a () is ahead of all.
    """
    holders = holders_of(clauses)
    grouped = {}
    found = []
    for number in range(len(clauses)):
        if number not in grouped:
            group = joined_to(number, clauses, holders)
            for member in group:
                grouped[member] = True
            found.append(tuple([clauses[member] for member in group]))
    return tuple(found)


def holders_of(clauses):
    """Of each name the numbers of the clauses that it stands in."""
    holders = {}
    for number, clause in enumerate(clauses):
        for name, _ in clause:
            holders.setdefault(name, []).append(number)
    return holders


def joined_to(number, clauses, holders):
    """The numbers, rising, of the clauses in one group with this one."""
    group = {number: True}
    asked = {}
    waiting = [number]
    while waiting:
        clause = clauses[waiting.pop()]
        for name, _ in clause:
            if name not in asked:
                asked[name] = True
                fresh = [other for other in holders[name] if other not in group]
                group.update({other: True for other in fresh})
                waiting.extend(fresh)
    return sorted(group)
