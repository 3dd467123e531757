"""Points 82, 83, 86: a desk, its rows, its answers, its refusals."""

import unittest

from tests.book_samples import any_page, moments, plain_fault, plain_number, some_books
from tests.samples import Mixer, form_of_threes
from waycircuits.asks import count_at, shown_count_at, weight_at
from waycircuits.desk import Desk
from waycircuits.errors import FormError, LackError, NoMore, NoPage, NoRow, NoStep
from waycircuits.readings import read_book, read_form
from waycircuits.session import Session
from waycircuits.texts import book_lines, form_lines, page_line
from waycircuits.views import form_at, idle, shown_at, weights_at

LINES = ["1 0 name a", "1 0 name b", "1 1 clause a,-b", "2 0 weight a 1/2 -3/4", "2 0 hide b", "3 0 show a", "3 0 clause c"]
SIXTY = [f"{day} 0 name a" for day in range(60)]
VIEWS = ("idle", "form", "weights", "shown", "count", "ways", "weight")
BARE = ("back", "deeds", "book", "asked")
DEEDS = ("tell", "strike", "all", "keep")


def desk_of(lines):
    desk = Desk()
    for line in lines:
        desk.say("tell " + line)
    return desk


def state_of(desk):
    """What the desk tells, but what its COUNTER knows."""
    return [desk.say(row) for row in ("book", "deeds", *VIEWS)]


def is_row(row):
    """Whether a desk has such a row."""
    word, _, rest = row.partition(" ")
    if word in ("tell", "strike"):
        return plain_fault(rest) is None
    if word in ("all", "keep"):
        return all(plain_fault(line) is None for line in rest.split(" / "))
    if word == "elder":
        return plain_number(rest, 999999999)
    if row in (*BARE, *VIEWS):
        return True
    day, point, number = rest.partition(".")
    return word in VIEWS and point == "." and plain_number(day, 99999) and plain_number(number, 999)


class Case(unittest.TestCase):
    def refuse(self, desk, row, error, *fields):
        with self.assertRaises(error) as caught:
            desk.say(row)
        self.assertEqual(list(vars(caught.exception).values()), list(fields), row)
        return caught.exception


class Deeds(Case):
    def test_tell(self):
        desk = Desk()
        self.assertEqual([desk.say("tell 1 0 name a"), desk.say("tell 1 0 name a"), desk.say(row="tell 0 0 name b")], ["new", "there", "new"])
        self.assertEqual((desk.say("book"), desk.say("deeds")), ("0 0 name b / 1 0 name a", "2"))

    def test_strike(self):
        desk = desk_of(LINES[:2])
        self.assertEqual(desk.say("strike 1 0 name a"), "ok")
        self.assertEqual((desk.say("book"), desk.say("deeds")), ("1 0 name b", "3"))
        self.assertIsInstance(self.refuse(desk, "strike 1 0 name a", NoPage, "none"), FormError)
        self.assertEqual((desk.say("book"), desk.say("deeds")), ("1 0 name b", "3"))

    def test_all_and_keep(self):
        for word in ("all", "keep"):
            desk = desk_of(LINES[:1])
            self.assertEqual(desk.say(f"{word} 1 0 name b"), "1")
            self.assertEqual(desk.say(f"{word} 1 0 name b / 1 0 name a"), "0")
            self.assertEqual(desk.say(f"{word} " + " / ".join(LINES + LINES[:2])), "5")
            self.assertEqual((desk.say("deeds"), desk.say("book")), ("3", " / ".join(book_lines(read_book(LINES)))))
            self.assertEqual([desk.say("back") for _ in range(3)], ["all 5", "all 1", "tell 1 0 name a"])

    def test_refused_all_leaves_nothing_and_keep_what_was_ahead(self):
        row = " / ".join(["0 0 name a", "58 0 name a", "59 0 name a", "60 0 name a", "61 0 name a"])
        desk = desk_of(SIXTY[:58])
        before = state_of(desk)
        self.refuse(desk, "all " + row, NoPage, "many")
        self.assertEqual(state_of(desk), before)
        self.refuse(desk, "keep " + row, NoPage, "many")
        self.assertEqual((desk.say("book"), desk.say("deeds")), (" / ".join(SIXTY), "59"))
        before = state_of(desk)
        self.refuse(desk, "keep " + row, NoPage, "many")
        self.refuse(desk, "tell 60 0 name a", NoPage, "many")
        self.assertEqual(state_of(desk), before)
        self.assertEqual((desk.say("tell 0 0 name a"), desk.say("back")), ("there", "all 2"))

    def test_back(self):
        desk = desk_of(LINES[:1])
        desk.say("strike " + LINES[0])
        desk.say("all " + LINES[3])
        self.assertEqual([desk.say("back") for _ in range(3)], ["all 1", "strike 1 0 name a", "tell 1 0 name a"])
        self.assertEqual((desk.say("deeds"), desk.say("book")), ("0", "-"))
        self.refuse(desk, "back", NoPage, "back")

    def test_back_of_a_session_that_was_taken_in(self):
        desk, other = desk_of(LINES[:1]), Session()
        other.tell_all(list(read_book(LINES)))
        desk.session.take_in(other)
        self.assertEqual((desk.say("deeds"), desk.say("back")), ("2", "take 6"))

    def test_elder(self):
        desk = desk_of(["1 0 name a", "0 0 name b"])
        self.assertEqual([desk.say(f"elder {k}") for k in range(3)], ["-", "1 0 name a", "0 0 name b / 1 0 name a"])
        for k in (3, 10, 999999999):
            self.assertIsInstance(self.refuse(desk, f"elder {k}", NoStep, k), LackError)
        for k in ("-1", "01", "00", "1000000000", "+1", "1 1", "", "a", "1.0", "-0", "0 "):
            self.refuse(desk, f"elder {k}", NoRow, f"elder {k}")


class Views(Case):
    def test_of_none(self):
        desk = Desk()
        self.assertEqual([desk.say(row) for row in ("book", "deeds", *VIEWS)], ["-", "0", "-", "names", "-", "-", "1", "1", "1/1"])

    def test_small_ones(self):
        desk = desk_of(LINES)
        self.assertEqual(desk.say("idle"), "name 3 0 clause c / same 3 0 show a")
        self.assertEqual(desk.say("idle 2.999"), "-")
        self.assertEqual([desk.say("form" + until) for until in ("", " 0.999", " 1.0", " 1.1", " 99999.999")],
                         ["names a b / clause a,-b", "names", "names a b", "names a b / clause a,-b", "names a b / clause a,-b"])
        self.assertEqual([desk.say("weights" + until) for until in ("", " 1.999", " 2.0")], ["a 1/2 -3/4", "-", "a 1/2 -3/4"])
        self.assertEqual([desk.say("shown" + until) for until in ("", " 0.0", " 1.5", " 2.0")], ["a", "-", "a,b", "a"])
        self.assertEqual([desk.say("count" + until) for until in ("", " 0.0", " 1.0", " 1.1")], ["3", "1", "4", "3"])
        self.assertEqual([desk.say("ways" + until) for until in ("", " 0.0", " 1.0", " 1.1", " 2.0")], ["2", "1", "4", "3", "2"])
        self.assertEqual([desk.say("weight" + until) for until in ("", " 0.0", " 1.0", " 1.1", " 2.0")], ["-1/1", "1/1", "4/1", "3/1", "-1/1"])

    def test_several_weights(self):
        desk = desk_of([*LINES, "5 0 weight b 0/1 2/1"])
        self.assertEqual(desk.say("weights"), "a 1/2 -3/4 / b 0/1 2/1")

    def test_a_number_is_told_by_nought(self):
        desk = desk_of(["0 0 name a", "0 0 clause !", "0 0 hide a"])
        self.assertEqual([desk.say(row) for row in ("count", "ways", "weight", "shown")], ["0", "0", "0/1", "-"])
        self.assertEqual(desk.say("asked"), "0 1 0")
        self.assertEqual(desk.say("all 0 0 name a"), "0")

    def test_as_the_functions_tell(self):
        for book in some_books(30):
            desk = desk_of(book_lines(book[:60]))
            told = desk.session.book()
            for until in moments():
                u = "" if until is None else f" {until[0]}.{until[1]}"
                self.assertEqual(desk.say("idle" + u), " / ".join(f"{word} {page_line(page)}" for page, word in idle(told, until)) or "-")
                self.assertEqual(desk.say("form" + u), " / ".join(form_lines(form_at(told, until))))
                self.assertEqual(read_form(desk.say("form" + u).split(" / ")), form_at(told, until))
                self.assertEqual(desk.say("shown" + u), ",".join(shown_at(told, until)) or "-")
                self.assertEqual(desk.say("count" + u), str(count_at(told, until)))
                self.assertEqual(desk.say("ways" + u), str(shown_count_at(told, until)))
                self.assertEqual(desk.say("weight" + u), "{}/{}".format(*weight_at(told, until)))
                weights = [f"{name} {no[0]}/{no[1]} {yes[0]}/{yes[1]}" for name, no, yes in weights_at(told, until)]
                self.assertEqual(desk.say("weights" + u), " / ".join(weights) or "-")
            self.assertEqual(desk.say("book"), str(desk.session))

    def test_what_only_asks_changes_nothing(self):
        desk = desk_of(LINES)
        for _ in range(2):
            for row in ("book", "elder 2", *BARE[1:3], *VIEWS, *[view + " 1.1" for view in VIEWS]):
                desk.say(row)
        self.assertEqual((desk.say("deeds"), len(desk.session.counter)), ("7", 0))
        self.assertEqual(desk.say("asked"), " ".join(map(str, desk_of(LINES).session.asked())))

    def test_asked(self):
        desk = desk_of(LINES)
        self.assertEqual((desk.say("asked"), desk.say("asked")), ("3 3 1", "3 0 1"))
        desk.say("strike 1 1 clause a,-b")
        self.assertEqual(desk.say("asked"), "4 0 1")
        desk.say("back")
        self.assertEqual(desk.say("asked"), "3 0 1")

    def test_no_more(self):
        names, clauses = form_of_threes(100, 40, 90)
        desk = Desk()
        desk.session.deeds.append(("all", (), (
            *[(0, 0, "name", name) for name in names], *[(0, 1, "clause", clause) for clause in clauses])))
        for row in ("count", "ways", "asked", "count 5.0", "ways 5.0"):
            self.refuse(desk, row, NoMore, 4000)
        self.assertEqual(len(desk.session.counter), 4000)


class Rows(Case):
    def no_row(self, row):
        desk = desk_of(LINES[:1])
        before = state_of(desk)
        error = self.refuse(desk, row, NoRow, row)
        self.assertIs(error.row, row)
        self.assertIsInstance(error, FormError)
        self.assertEqual(state_of(desk), before)

    def test_no_rows(self):
        for row in ("", " ", "-", "name", "1 0 name a", "Tell 1 0 name a", "told", "books", "tel 1 0 name a", "back back", "~",
                    "telling 1 0 name a", "take", "len", "new", "idles", "weighs", "form/", "book/", "* deeds"):
            self.no_row(row)

    def test_bare_words(self):
        for word in BARE:
            desk_of(LINES[:1]).say(word)
            for row in (word + " ", " " + word, f"{word} {word}", f"{word} 1", f"{word} 1.1", f"{word} -", word + "  ", word.upper(), word + "/"):
                self.no_row(row)

    def test_moments(self):
        for word in VIEWS:
            desk_of(LINES[:1]).say(word)
            desk_of(LINES[:1]).say(word + " 0.0")
            for u in ("", " ", "1", "1.", ".1", ".", "1.1.1", "1 1", "01.0", "0.01", "-1.0", "1.-1", "100000.0", "0.1000", "1,1", "None", "-",
                      "1.1 ", " 1.1", "1.1 1.1", "1234567890.0", "a.b", "+1.0", "1.0/"):
                self.no_row(f"{word} {u}")
            for row in (" " + word, word.upper(), word + "1.1"):
                self.no_row(row)

    def test_pages(self):
        for word in DEEDS:
            for line in ("", " ", "1", "1 0", "1 0 name", "1 0 nome a", "1 0 name A", "1 0 name a ", " 1 0 name a", "1  0 name a", "01 0 name a",
                         "100000 0 name a", "1 1000 name a", "1 0 clause b,a", "1 0 weight a 2/4 1/1", "1 0 weight a 1/1", "1 0 name a b", "-",
                         "1.0 name a", "1 0 clause", "1 0 strike a,!", "1 0 name a /", "/ 1 0 name a", "/"):
                self.no_row(f"{word} {line}")
            self.no_row(word)
            self.no_row(word.upper() + " 1 0 name a")

    def test_one_page_alone(self):
        for word in ("tell", "strike"):
            self.no_row(word + " 1 0 name a / 1 0 name b")

    def test_several_pages(self):
        for word in ("all", "keep"):
            for line in ("1 0 name a / ", "1 0 name a / / 1 0 name b", "1 0 name a /  / 1 0 name b", "1 0 name a  / 1 0 name b",
                         "1 0 name a /  1 0 name b", "1 0 name a/1 0 name b", "1 0 name a, 1 0 name b", "1 0 name a / x", "x / 1 0 name a",
                         "1 0 name a 1 0 name b", " / 1 0 name a", "-", "- / 1 0 name a", "1 0 name a / -"):
                self.no_row(f"{word} {line}")

    def test_no_row_ahead_of_all_else(self):
        full = desk_of(SIXTY)
        for row in ("tell 60 0 name A", "all 60 0 name a / 60 0 name A", "keep 60 0 name a / x", "strike 60 0 name"):
            self.refuse(full, row, NoRow, row)
        self.assertEqual(full.say("deeds"), "60")

    def test_rows_turned_by_one_word_or_sign(self):
        rows = ["tell 5 0 name b", "strike 1 0 name a", "all 5 0 name b / 5 0 clause -a,b", "keep 5 0 weight a 1/2 2/1", "back", "deeds", "book",
                "elder 1", "idle 1.1", "form", "weights 0.5", "shown", "count 2.2", "ways", "weight", "asked"]
        seen = set()
        for row in rows:
            self.assertIs(is_row(row), True)
            words, turned = row.split(" "), set()
            for at in range(len(words)):
                for other in ([], [words[at]] * 2, ["x"], ["1"], [""], ["/"], ["1.1"], ["a"], [words[at], "/"], ["/", words[at]]):
                    turned.add(" ".join([*words[:at], *other, *words[at + 1:]]))
            for at in range(len(row) + 1):
                turned |= {row[:at] + sign + row[at + skip:] for sign in ("", " ", "0", "1", "a", ".", "/", "-") for skip in (0, 1)}
            for one in sorted(turned):
                desk = desk_of(LINES[:1])
                try:
                    seen.add(type(desk.say(one)))
                    told = True
                except NoRow as caught:
                    self.assertEqual(caught.row, one)
                    told = False
                except (NoPage, NoStep) as caught:
                    seen.add(type(caught))
                    told = True
                self.assertIs(told, is_row(one), one)
        self.assertEqual(seen, {str, NoPage, NoStep})


class Whole(Case):
    def test_behind_each_deed_all_tell_the_same(self):
        for seed in range(20):
            mixer, desk, session = Mixer(seed), Desk(), Session()
            for _ in range(40):
                pages = [any_page(mixer) for _ in range(3)]
                lines = " / ".join(page_line(page) for page in pages)
                way = mixer.below(6)
                if way == 0 and len(session):
                    word, what = session.back()
                    self.assertEqual(desk.say("back"), f"{word} {len(what) if word == 'all' else page_line(what)}")
                elif way == 1 and session.book():
                    page = session.book()[mixer.below(len(session.book()))]
                    session.strike(page)
                    self.assertEqual(desk.say("strike " + page_line(page)), "ok")
                elif way < 4:
                    word = ("all", "keep")[way - 2]
                    self.assertEqual(desk.say(f"{word} {lines}"), str(session.tell_all(pages, keep=word == "keep")))
                else:
                    self.assertEqual(desk.say("tell " + page_line(pages[0])), "new" if session.tell(pages[0]) else "there")
                self.assertIs(desk.session == session, True)
                self.assertEqual(desk.say("book"), str(session))
                self.assertEqual(desk.say("deeds"), str(len(session)))
                self.assertEqual(desk.say("asked"), " ".join(map(str, session.asked())))
                self.assertEqual(desk.say("count"), desk.say("asked").split(" ")[0])
                self.assertEqual(desk.say(f"elder {len(session)}"), desk.say("book"))

    def test_desks_are_apart(self):
        one, other = Desk(), Desk()
        one.say("tell 1 0 name a")
        self.assertEqual((other.say("book"), other.say("asked"), one.say("asked")), ("-", "1 1 0", "2 1 0"))

    def test_no_arguments(self):
        with self.assertRaises(TypeError):
            Desk(1)
