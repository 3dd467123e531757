"""The lines of PAGES, BOOKS, FORMS ([76])."""


def page_line(page):
    """The line of a PAGE."""
    day, number, kind, *what = page
    if kind == "weight":
        words = weight_words(what)
    elif kind == "clause" or kind == "strike":
        words = [clause_word(what[0])]
    else:
        words = what
    return " ".join([str(day), str(number), kind, *words])


def book_lines(book):
    """The lines of a BOOK's PAGES, a list."""
    return [page_line(page) for page in book]


def form_lines(form):
    """The lines of a FORM, a list: its names, then each of its CLAUSES."""
    names, clauses = form
    return [" ".join(["names", *names]), *["clause " + clause_word(clause) for clause in clauses]]


def weight_words(triple):
    """The words of a name and of the FRACTIONS that it weighs False, True: a list."""
    name, no, yes = triple
    return [name, fraction_word(no), fraction_word(yes)]


def fraction_word(fraction):
    """The word of a FRACTION."""
    over, under = fraction
    return f"{over}/{under}"


def clause_word(clause):
    """The word of a CLAUSE."""
    if not clause:
        return "!"
    return ",".join([name if truth else "-" + name for name, truth in clause])
