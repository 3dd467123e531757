"""SENTENCES: whether any thing is one, its PARTS, its names, its truth in a ROW ([18])."""

from waycircuits.words import is_word


def is_sentence(thing):
    """Whether the thing is a SENTENCE."""
    if not isinstance(thing, tuple) or len(thing) < 2:
        return False
    kind = thing[0]
    if kind == "alike":
        return len(thing) == 3 and is_sentence(thing[1]) and is_sentence(thing[2])
    if len(thing) != 2:
        return False
    inner = thing[1]
    if kind == "name":
        return is_word(inner)
    if kind == "not":
        return is_sentence(inner)
    if kind == "and" or kind == "or":
        return isinstance(inner, tuple) and all([is_sentence(part) for part in inner])
    return kind == "truth" and isinstance(inner, bool)


def sentence_names(sentence):
    """The NAMES that stand in the SENTENCE."""
    return tuple(sorted({part[1] for part, _ in parts_of(sentence) if part[0] == "name"}))


def truth_of(sentence, row):
    """The truth of the SENTENCE in the ROW of its names."""
    named = dict(zip(sentence_names(sentence), row))
    truths = []
    for part, numbers in parts_of(sentence):
        truths.append(truth_by(part, [truths[number] for number in numbers], named))
    return truths[-1]


def truth_by(part, inner, named):
    """The truth of a PART, of what stands in it told the truths, in order, of names a dict of theirs."""
    kind = part[0]
    if kind == "name":
        return named[part[1]]
    if kind == "not":
        return not inner[0]
    if kind == "and":
        return all(inner)
    if kind == "or":
        return any(inner)
    if kind == "alike":
        return inner[0] == inner[1]
    return part[1]


def parts_of(sentence):
    """The PARTS in their order: of each a pair of it and of the numbers of those that stand in it."""
    parts = []
    add_parts(sentence, parts)
    return parts


def add_parts(sentence, parts):
    """Lay the PARTS of the SENTENCE behind these, and tell its own number."""
    numbers = []
    for inner in standing_in(sentence):
        numbers.append(add_parts(inner, parts))
    parts.append((sentence, numbers))
    return len(parts) - 1


def standing_in(sentence):
    """The SENTENCES that stand in this one itself, a tuple, in order."""
    kind = sentence[0]
    if kind == "and" or kind == "or":
        return sentence[1]
    if kind == "not" or kind == "alike":
        return sentence[1:]
    return ()
