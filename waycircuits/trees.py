"""CASE TREES ([7]): whether any thing is one by kind, and one without names that are PUT.

A list of trees that wait stands in the place of calls within calls: a tree may be as deep as names are many.
"""

from waycircuits.words import is_number, is_word


def is_case_tree(thing, names):
    """Whether the thing is a CASE TREE by kind, of the names, a dict's keys."""
    waiting = [thing]
    while waiting:
        tree = waiting.pop()
        if is_case(tree, names):
            waiting.extend(tree[2:])
        elif not is_out(tree):
            return False
    return True


def is_case(thing, names):
    """Whether the thing is ("case", name, any thing, any thing)."""
    if not isinstance(thing, tuple) or len(thing) != 4:
        return False
    return thing[0] == "case" and is_word(thing[1]) and thing[1] in names


def is_out(thing):
    """Whether the thing is ("out", 0) or ("out", 1)."""
    if not isinstance(thing, tuple) or len(thing) != 2:
        return False
    return thing[0] == "out" and is_number(thing[1]) and 0 <= thing[1] <= 1


def tree_put(tree, truths):
    """The CASE TREE without the names of these truths: behind each "case" of one it goes on by the truth alone."""
    path = []
    left = tree
    while True:
        while left[0] == "case":
            _, name, low, high = left
            if name in truths:
                left = high if truths[name] else low
            else:
                path.append((name, None, high))
                left = low
        while path and path[-1][1] is not None:
            name, low, _ = path.pop()
            left = ("case", name, low, left)
        if not path:
            return left
        name, _, high = path.pop()
        path.append((name, left, None))
        left = high
