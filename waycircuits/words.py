"""WORDS, NUMBERS and NAMES: whether any thing is one ([2], [4], [10])."""


def is_word(thing):
    """Whether the thing is a WORD: a text of one to eight small letters."""
    if not isinstance(thing, str) or not 1 <= len(thing) <= 8:
        return False
    return all(["a" <= sign <= "z" for sign in thing])


def is_number(thing):
    """Whether the thing is a NUMBER: an int that is no truth."""
    return isinstance(thing, int) and not isinstance(thing, bool)


def is_names(thing):
    """Whether the thing is NAMES: a rising tuple of WORDS."""
    return isinstance(thing, tuple) and all([is_word(name) for name in thing]) and rises(thing)


def rises(things):
    """Whether things that Python can sort rise, each once."""
    return all([one < other for one, other in zip(things, things[1:])])
