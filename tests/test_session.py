"""Points 78 to 81: a SESSION, its deeds, its BOOK, what it is ASKED."""

import copy
import unittest

from tests.book_samples import any_page, any_pages, plain_book, some_books
from tests.samples import Mixer, plain_models, strange_things
from waycircuits.books import in_order
from waycircuits.counter import Counter
from waycircuits.errors import FormError, LackError, NoMore, NoPage, NoStep
from waycircuits.session import Session
from waycircuits.texts import book_lines
from waycircuits.views import form_at
from waycircuits.walking import trail_of

NAME_A, NAME_B, NAME_C = (1, 0, "name", "a"), (1, 0, "name", "b"), (0, 0, "name", "c")
EITHER = (1, 1, "clause", (("a", True), ("b", True)))
SIXTY = tuple((day, 0, "name", "a") for day in range(60))
MORE = (70, 0, "name", "a")


def session_of(pages):
    session = Session()
    for page in pages:
        session.tell(page)
    return session


def taken_back(session):
    """All deeds that are taken back, the last one ahead."""
    return [session.back() for _ in range(len(session))]


class Case(unittest.TestCase):
    def refuse(self, word, function, *arguments, **more):
        with self.assertRaises(NoPage) as caught:
            function(*arguments, **more)
        self.assertEqual(caught.exception.word, word)
        self.assertIsInstance(caught.exception, FormError)

    def refuse_and_stay(self, session, word, function, *arguments, **more):
        ahead = (session.book(), len(session), str(session), len(session.counter))
        self.refuse(word, function, *arguments, **more)
        self.assertEqual((session.book(), len(session), str(session), len(session.counter)), ahead)


class Tells(Case):
    def test_a_new_one(self):
        session = Session()
        self.assertEqual((session.book(), len(session), str(session)), ((), 0, "-"))

    def test_tell(self):
        session = Session()
        self.assertIs(session.tell(NAME_A), True)
        self.assertIs(session.tell(NAME_A), False)
        self.assertIs(session.tell(thing=NAME_C), True)
        self.assertEqual((session.book(), len(session)), ((NAME_C, NAME_A), 2))
        self.assertEqual(str(session), "0 0 name c / 1 0 name a")

    def test_of_many(self):
        for seed in range(40):
            pages, session, there = any_pages(seed), Session(), []
            for page in pages:
                self.assertIs(session.tell(page), page not in there)
                there.append(page)
                self.assertEqual(session.book(), plain_book(there))
            self.assertEqual(len(session), len(set(there)))

    def test_things_that_are_no_pages(self):
        session = session_of([NAME_A])
        wrong = [[], list(NAME_A), [NAME_A], (NAME_A,), None, True, 0, "1 0 name a", (True, 0, "name", "a"), (1, False, "name", "a"),
                 (1, 0, "name"), (1, 0, "name", "A"), (100000, 0, "name", "a"), (1, 0, "weight", "a", (2, 2), (1, 1)), ()]
        for thing in [*strange_things(), *wrong]:
            before = copy.deepcopy(thing)
            self.refuse_and_stay(session, "kind", session.tell, thing)
            self.assertEqual(thing, before)

    def test_the_sixty_first(self):
        session = session_of(SIXTY)
        self.assertEqual((len(session.book()), len(session)), (60, 60))
        self.refuse_and_stay(session, "many", session.tell, MORE)
        self.refuse_and_stay(session, "kind", session.tell, list(MORE))
        self.assertIs(session.tell(SIXTY[7]), False)
        session.strike(SIXTY[7])
        self.assertIs(session.tell(MORE), True)
        self.refuse_and_stay(session, "many", session.tell, SIXTY[7])


class Strikes(Case):
    def test_strike(self):
        session = session_of([NAME_A, NAME_B])
        self.assertIsNone(session.strike(NAME_A))
        self.assertEqual((session.book(), len(session)), ((NAME_B,), 3))
        self.refuse_and_stay(session, "none", session.strike, NAME_A)
        self.assertIs(session.tell(NAME_A), True)
        self.assertIsNone(session.strike(thing=NAME_A))
        self.assertEqual(len(session), 5)

    def test_it_isnt_there(self):
        for session in (Session(), session_of([NAME_A, (0, 1, "name", "b")])):
            for thing in [*strange_things(), NAME_B, list(NAME_A), (True, 0, "name", "a"), (1, False, "name", "a"), (False, True, "name", "b")]:
                self.refuse_and_stay(session, "none", session.strike, thing)

    def test_one_and_true_in_fractions_and_clauses(self):
        session = session_of([(1, 0, "weight", "a", (1, 1), (0, 1)), EITHER])
        for thing in ((1, 0, "weight", "a", (True, 1), (0, 1)), (1, 0, "weight", "a", (1, 1), (False, 1)),
                      (1, 1, "clause", (("a", 1), ("b", True)))):
            self.refuse_and_stay(session, "none", session.strike, thing)
            self.refuse_and_stay(session, "kind", session.tell, thing)


class Takes(Case):
    def test_take_in(self):
        session, other = session_of([NAME_A, NAME_B]), session_of([NAME_B, NAME_C, EITHER])
        self.assertEqual(session.take_in(other), 2)
        self.assertEqual((session.book(), len(session)), ((NAME_C, NAME_A, NAME_B, EITHER), 3))
        self.assertEqual((other.book(), len(other)), ((NAME_C, NAME_B, EITHER), 3))
        self.assertEqual(session.take_in(other=other), 0)
        self.assertEqual(len(session), 3)
        self.assertEqual(session.back(), ("take", (NAME_C, EITHER)))

    def test_itself(self):
        for session in (Session(), session_of([NAME_A]), session_of(SIXTY)):
            ahead = (session.book(), len(session))
            self.assertEqual(session.take_in(session), 0)
            self.assertEqual((session.book(), len(session)), ahead)

    def test_more_than_there_is_room_for(self):
        session = session_of(SIXTY[:40])
        for pages in (SIXTY[19:] + (MORE,), SIXTY[40:] + (MORE, (71, 0, "name", "a"))):
            self.refuse_and_stay(session, "many", session.take_in, session_of(pages))
        full = session_of(SIXTY)
        self.refuse_and_stay(full, "many", full.take_in, session_of([MORE]))
        self.assertEqual(full.take_in(session_of(SIXTY[9:30])), 0)
        self.assertEqual(session.take_in(session_of(SIXTY[20:])), 20)
        self.assertEqual((session.book(), len(session)), (SIXTY, 41))

    def test_its_own(self):
        session, other = session_of([NAME_A]), session_of([NAME_B])
        session.take_in(other)
        other.strike(NAME_B)
        other.tell(NAME_C)
        self.assertEqual(session.book(), (NAME_A, NAME_B))
        session.strike(NAME_B)
        self.assertEqual(other.book(), (NAME_C,))

    def test_the_other_ones_counter_turns_nothing(self):
        session, other = Session(), session_of([NAME_A, NAME_B, EITHER])
        other.asked()
        session.take_in(other)
        self.assertEqual(session.asked(), session_of(other.book()).asked())


class TellsAll(Case):
    def test_tell_all(self):
        session = session_of([NAME_A])
        things = [NAME_B, NAME_A, NAME_C, NAME_B]
        self.assertEqual(session.tell_all(things), 2)
        self.assertEqual(things, [NAME_B, NAME_A, NAME_C, NAME_B])
        self.assertEqual((session.book(), len(session)), ((NAME_C, NAME_A, NAME_B), 2))
        for keep in (False, True):
            for none in ([], (), [NAME_A], (NAME_B, NAME_B)):
                self.assertEqual(session.tell_all(things=none, keep=keep), 0)
        self.assertEqual(len(session), 2)
        self.assertEqual(session.tell_all((EITHER,), keep=True), 1)
        self.assertEqual(session.back(), ("all", (EITHER,)))
        self.assertEqual(session.back(), ("all", (NAME_C, NAME_B)))

    def test_as_by_telling_one_by_one(self):
        for seed in range(40):
            pages, session = any_pages(seed), session_of(any_pages(seed + 3)[:9])
            single = session_of(session.book())
            wanted = sum(single.tell(page) for page in pages)
            many = len(session)
            self.assertEqual(session.tell_all(tuple(pages), keep=bool(seed % 2)), wanted)
            self.assertEqual(session, single)
            self.assertEqual(len(session), many + bool(wanted))

    def test_one_is_refused(self):
        for thing, word in (([], "kind"), (list(NAME_B), "kind"), (None, "kind"), ([NAME_B], "kind")):
            for things in ([NAME_B, NAME_C, thing, EITHER], (thing, NAME_B), [NAME_A, thing, thing], [NAME_B, thing, 5]):
                session = session_of([NAME_A])
                self.refuse_and_stay(session, word, session.tell_all, things)
                self.refuse_and_stay(session, word, session.tell_all, things, keep=False)

    def test_with_keep(self):
        session = session_of([NAME_A])
        self.refuse("kind", session.tell_all, [NAME_B, NAME_A, NAME_C, NAME_B, None, EITHER], keep=True)
        self.assertEqual((session.book(), len(session)), ((NAME_C, NAME_A, NAME_B), 2))
        self.refuse_and_stay(session, "kind", session.tell_all, [NAME_B, NAME_C, None, EITHER], keep=True)
        self.refuse_and_stay(session, "kind", session.tell_all, [None, EITHER], keep=True)
        self.assertEqual(session.back(), ("all", (NAME_C, NAME_B)))
        self.assertEqual(session.book(), (NAME_A,))

    def test_the_sixty_first(self):
        session = session_of(SIXTY[:58])
        things = [SIXTY[0], SIXTY[58], SIXTY[59], SIXTY[58], MORE, None]
        self.refuse_and_stay(session, "many", session.tell_all, things)
        self.refuse("many", session.tell_all, things, keep=True)
        self.assertEqual((session.book(), len(session)), (SIXTY, 59))
        self.refuse_and_stay(session, "many", session.tell_all, things, keep=True)
        self.refuse_and_stay(session, "kind", session.tell_all, things[:4] + [None, MORE], keep=True)
        self.assertEqual(session.tell_all(things[:4]), 0)
        self.assertEqual(session.back(), ("all", SIXTY[58:]))

    def test_keep_by_name_alone(self):
        with self.assertRaises(TypeError):
            Session().tell_all([], True)


class Back(Case):
    def test_each_deed(self):
        session, other = Session(), session_of([NAME_B, NAME_C])
        session.tell(NAME_A)
        session.strike(NAME_A)
        session.take_in(other)
        session.tell_all([EITHER, NAME_A])
        self.assertEqual(taken_back(session), [
            ("all", (NAME_A, EITHER)), ("take", (NAME_C, NAME_B)), ("strike", NAME_A), ("tell", NAME_A)])
        self.assertEqual((session.book(), len(session)), ((), 0))

    def test_no_deed(self):
        session = Session()
        self.refuse_and_stay(session, "back", session.back)
        session.tell(NAME_A)
        session.back()
        self.refuse_and_stay(session, "back", session.back)
        self.assertIs(session.tell(NAME_A), True)

    def test_as_if_it_had_never_been(self):
        session = session_of([NAME_A, NAME_B])
        session.strike(NAME_A)
        session.back()
        self.assertEqual((session.book(), len(session)), ((NAME_A, NAME_B), 2))
        self.assertIs(session.tell(NAME_A), False)
        session.back()
        self.assertIs(session.tell(NAME_B), True)

    def test_of_many(self):
        """Deeds mixed up, and taken back one by one, beside a plain list of BOOKS."""
        for seed in range(40):
            mixer, session, books, told = Mixer(seed), Session(), [()], []
            for _ in range(30):
                page, way = any_page(mixer), mixer.below(6)
                ahead = books[-1]
                if way == 0 and told:
                    self.assertEqual(session.back(), told.pop())
                    books.pop()
                    self.assertEqual(session.book(), books[-1])
                    continue
                if way == 1 and ahead:
                    page = ahead[mixer.below(len(ahead))]
                    session.strike(page)
                    told.append(("strike", page))
                    books.append(tuple(one for one in ahead if one != page))
                elif way == 2:
                    pages = [page, *any_pages(mixer.below(99), 3)]
                    fresh = plain_book([one for one in pages if one not in ahead])
                    self.assertEqual(session.tell_all(pages), len(fresh))
                    if fresh:
                        told.append(("all", fresh))
                        books.append(plain_book(ahead + fresh))
                elif session.tell(page):
                    told.append(("tell", page))
                    books.append(plain_book((*ahead, page)))
                self.assertEqual((session.book(), len(session)), (books[-1], len(books) - 1))
                self.assertEqual([session.elder(k) for k in range(len(books))], books)
            self.assertEqual(taken_back(session), told[::-1])


class Elder(Case):
    def test_elder(self):
        session = session_of([NAME_A, NAME_B])
        session.strike(NAME_A)
        self.assertEqual([session.elder(k) for k in range(4)], [(), (NAME_A,), (NAME_A, NAME_B), (NAME_B,)])
        self.assertEqual(session.elder(k=1), (NAME_A,))

    def test_no_step(self):
        for session in (Session(), session_of([NAME_A, NAME_B])):
            many = len(session)
            for k in (-1, -2, -many - 1, many + 1, many + 2, 10 ** 59, -(10 ** 59)):
                with self.assertRaises(NoStep) as caught:
                    session.elder(k)
                self.assertEqual(caught.exception.number, k)
                self.assertIsInstance(caught.exception, LackError)


class Alike(Case):
    def test_where_their_books_are_the_same(self):
        one, other = session_of([NAME_A, NAME_B]), session_of([NAME_B, NAME_C, NAME_A])
        self.assertIs(one == other, False)
        self.assertIs(one != other, True)
        other.strike(NAME_C)
        self.assertIs(one == other, True)
        self.assertIs(one != other, False)
        one.asked()
        self.assertIs(one == other, True)
        self.assertIs(one == one, True)
        self.assertIs(Session() == Session(), True)
        self.assertIs(Session() != Session(), False)

    def test_of_many(self):
        books = some_books(30)
        for one in books:
            for other in books:
                if max(len(one), len(other)) <= 60:
                    self.assertIs(session_of(one) == session_of(other[::-1]), one == other)
                    self.assertIs(session_of(one) != session_of(other[::-1]), one != other)

    def test_other_things(self):
        session = session_of([NAME_A])
        for thing in [*strange_things(), Counter(), NAME_A, (NAME_A,), [NAME_A], str(session), ()]:
            self.assertIs(session == thing, False)
            self.assertIs(session != thing, True)
            self.assertIs(Session() == thing, False)

    def test_str(self):
        for book in some_books(20):
            self.assertEqual(str(session_of(book[:60])), " / ".join(book_lines(book[:60])) or "-")


class Asked(Case):
    def test_asked(self):
        session = session_of([NAME_A, NAME_B, EITHER])
        self.assertEqual(session.asked(), Counter().ask(form_at(session.book())))
        self.assertEqual(session.asked(), (3, 0, 1))
        session.strike(EITHER)
        self.assertEqual(session.asked(), (4, 0, 1))
        session.back()
        session.back()
        # a clause whose names don't all stand is idle now
        session.back()
        self.assertEqual(session.asked(), (2, 0, 1))

    def test_no_pages(self):
        session = Session()
        self.assertEqual(session.asked(), (1, 1, 0))
        self.assertEqual(session.asked(most=0), (1, 0, 1))

    def test_beside_a_counter(self):
        """Fresh and known hang on what was ASKED ahead alone, whatever deeds are done, taken back, refused."""
        for seed in range(30):
            mixer, session, counter = Mixer(seed), Session(), Counter()
            for _ in range(40):
                way = mixer.below(5)
                if way == 0 and len(session):
                    session.back()
                elif way == 1:
                    self.refuse("kind", session.tell, None)
                elif way == 2 and session.book():
                    session.strike(session.book()[0])
                else:
                    session.tell_all([any_page(mixer), any_page(mixer)])
                form = form_at(session.book())
                told = session.asked()
                self.assertEqual(told, counter.ask(form))
                self.assertEqual(told[0], len(plain_models(form)))

    def test_most(self):
        pages = [NAME_A, NAME_B, NAME_C, (2, 0, "clause", (("a", False), ("c", True))), EITHER]
        many = len(trail_of(form_at(in_order(pages))))
        self.assertGreater(many, 2)
        for most in range(many):
            session, counter = session_of(pages), Counter()
            form = form_at(session.book())
            with self.assertRaises(NoMore) as caught:
                session.asked(most=most)
            self.assertEqual(caught.exception.rows, most)
            with self.assertRaises(NoMore):
                counter.ask(form, most=most)
            self.assertEqual((len(session), session.book()), (len(pages), in_order(pages)))
            # what was laid ahead stays known, whatever is done behind it
            session.strike(EITHER)
            session.back()
            self.assertEqual(session.asked(most=many - most), counter.ask(form))
        self.assertEqual(session_of(pages).asked(most=many), Counter().ask(form))

    def test_most_by_name_alone(self):
        with self.assertRaises(TypeError):
            Session().asked(9)
        with self.assertRaises(TypeError):
            Session(1)
