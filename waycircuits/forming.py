"""The FORM of a SENTENCE, by HELPERS ([19])."""

from waycircuits.sentences import parts_of, sentence_names

LETTERS = "abcdefghijklmnopqrstuvwxyz"


def formed(sentence, *, head="h"):
    """The pair of the FORM of the SENTENCE and of the HELPER of the SENTENCE itself."""
    parts = parts_of(sentence)
    names = sentence_names(sentence)
    helpers = helpers_of(len(parts), head, names)
    clauses = [((helpers[-1], True),)]
    for (part, numbers), helper in zip(parts, helpers):
        clauses.extend(part_clauses(part, helper, [helpers[number] for number in numbers]))
    form = (tuple(sorted([*names, *helpers])), tuple(sorted(set(clauses))))
    return (form, helpers[-1])


def helpers_of(many, head, names):
    """So many HELPERS: the head and one letter, then two, those left out that are names of the SENTENCE."""
    tails = [*LETTERS, *[one + other for one in LETTERS for other in LETTERS]]
    words = [head + tail for tail in tails if head + tail not in names]
    return words[:many]


def part_clauses(part, helper, inner):
    """The CLAUSES of a PART, inner the HELPERS of what stands in it."""
    kind = part[0]
    if kind == "name":
        return alike_clauses(helper, part[1], True)
    if kind == "not":
        return alike_clauses(helper, inner[0], False)
    if kind == "and":
        return bound_clauses(helper, inner, False)
    if kind == "or":
        return bound_clauses(helper, inner, True)
    if kind == "alike":
        return both_clauses(helper, inner[0], inner[1])
    return [((helper, part[1]),)]


def alike_clauses(helper, word, truth):
    """The helper is True just where the word has the truth."""
    return [clause_of([(helper, False), (word, truth)]), clause_of([(helper, True), (word, not truth)])]


def bound_clauses(helper, inner, truth):
    """The helper has the truth just where one of inner has it: so of "or" with True, of "and" with False."""
    each = [clause_of([(helper, truth), (word, not truth)]) for word in inner]
    return [*each, clause_of([(helper, not truth), *[(word, truth) for word in inner]])]


def both_clauses(helper, one, other):
    """The helper is True just where the one and the other have like truths."""
    signs = ((True, False, False), (True, True, True), (False, False, True), (False, True, False))
    return [clause_of([(helper, of_helper), (one, of_one), (other, of_other)])
            for of_helper, of_one, of_other in signs]


def clause_of(literals):
    """The CLAUSE of these LITERALS, as they rise."""
    return tuple(sorted(literals))
