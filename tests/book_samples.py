"""PAGES and BOOKS for the tests, and what stands by them, once more and plainly."""

import re
from fractions import Fraction

from tests.samples import Mixer

KINDS = ["name", "clause", "strike", "weight", "show", "hide"]
WORDS = ("a", "b", "c", "dd")
FRACTIONS = ((1, 1), (0, 1), (1, 2), (-3, 4), (2, 1), (-1, 1))


def any_page(mixer, words=WORDS):
    """A PAGE of few MOMENTS and few names."""
    kind = ("name", "name", "clause", "clause", "strike", "weight", "show", "hide")[mixer.below(8)]
    moment = (mixer.below(4), mixer.below(3))
    word = words[mixer.below(len(words))]
    if kind in ("clause", "strike"):
        picked = {words[mixer.below(len(words))]: bool(mixer.below(2)) for _ in range(mixer.below(3))}
        return (*moment, kind, tuple(sorted(picked.items())))
    if kind == "weight":
        return (*moment, kind, word, FRACTIONS[mixer.below(6)], FRACTIONS[mixer.below(6)])
    return (*moment, kind, word)


def any_pages(seed, many=None):
    """PAGES, mixed up, some perhaps several times: a list."""
    mixer = Mixer(seed + 301)
    pages = [any_page(mixer) for _ in range(mixer.below(40) if many is None else many)]
    return pages + [pages[mixer.below(len(pages))] for _ in range(mixer.below(6)) if pages]


def plain_key(page):
    return (page[0], page[1], KINDS.index(page[2]), page[3:])


def plain_book(pages):
    """The BOOK of these PAGES, by sorting and leaving out what is there."""
    found = []
    for page in sorted(pages, key=plain_key):
        if page not in found:
            found.append(page)
    return tuple(found)


def some_books(many=60):
    return [plain_book(any_pages(seed)) for seed in range(many)]


def moments():
    """MOMENTS ahead of all, between, behind all, and None."""
    return [None, (0, 0), (0, 1), (1, 0), (1, 2), (2, 1), (3, 2), (99999, 999)]


class Plain:
    """What stands UNTIL a MOMENT, once more and plainly."""

    def __init__(self, book, until=None):
        self.names, self.clauses, self.weights, self.hidden, self.idle = set(), set(), {}, set(), []
        for page in book:
            if until is None or page[0] < until[0] or (page[0] == until[0] and page[1] <= until[1]):
                word = self.word(page)
                if word:
                    self.idle.append((page, word))
                else:
                    self.do(*page[2:])

    def word(self, page):
        kind, what = page[2:4]
        asked = {name for name, _ in what} if kind in ("clause", "strike") else {what}
        if kind == "name" and what in self.names:
            return "there"
        if kind == "clause" and what in self.clauses:
            return "there"
        if kind != "name" and asked - self.names:
            return "name"
        if kind == "strike" and what not in self.clauses:
            return "none"
        if kind == "weight" and self.weights.get(what) == page[4:]:
            return "same"
        if kind == "show" and what not in self.hidden or kind == "hide" and what in self.hidden:
            return "same"
        return None

    def do(self, kind, what, *more):
        {"name": self.names.add, "clause": self.clauses.add, "strike": self.clauses.discard, "hide": self.hidden.add,
         "show": self.hidden.discard, "weight": lambda name: self.weights.update({name: more})}[kind](what)

    def form(self):
        return (tuple(sorted(self.names)), tuple(sorted(self.clauses)))

    def told_weights(self):
        return tuple((name, *pair) for name, pair in sorted(self.weights.items()))

    def shown(self):
        return tuple(sorted(self.names - self.hidden))


def plain_number(word, most):
    """Whether the word is a NUMBER from 0 to most."""
    return bool(re.fullmatch("0|[1-9][0-9]{0,8}", word)) and int(word) <= most


def plain_fraction(word):
    """Whether the word is a FRACTION."""
    found = re.fullmatch("(0|-?[1-9][0-9]{0,8})/([1-9][0-9]{0,8})", word)
    if not found:
        return False
    told = Fraction(int(found[1]), int(found[2]))
    return (told.numerator, told.denominator) == (int(found[1]), int(found[2]))


def plain_clause(word):
    """Whether the word is a CLAUSE."""
    names = [part.lstrip("-") for part in word.split(",")]
    return word == "!" or bool(re.fullmatch("-?[a-z]{1,8}(,-?[a-z]{1,8})*", word)) and names == sorted(set(names))


def plain_fault(line):
    """The number of the first word that can't stand in a PAGE's line, or how many there are where one lacks; else None."""
    def is_word(word):
        return bool(re.fullmatch("[a-z]{1,8}", word))
    behind = {"name": [is_word], "show": [is_word], "hide": [is_word], "clause": [plain_clause], "strike": [plain_clause],
              "weight": [is_word, plain_fraction, plain_fraction]}
    words = line.split(" ")
    tests = [lambda word: plain_number(word, 99999), lambda word: plain_number(word, 999), lambda word: word in behind]
    for at, word in enumerate(words):
        if at == len(tests) or not tests[at](word):
            return at
        if at == 2:
            tests += behind[word]
    return len(words) if len(words) < len(tests) else None
