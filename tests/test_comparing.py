from random import Random
import unittest

from beamheads.assignments import is_assignment, least_assignment, refusal
from beamheads.beams import Beam
from beamheads.books import Book
from beamheads.comparing import blocking_jobs, difference, is_needless, stuck_rest
from beamheads.errors import UnknownJob, UnlikeBooks
from beamheads.heads import Head
from beamheads.jobs import Job
from beamheads.lines import Line
from tests.helpers import FAR, NO_NAMES, ErrorCase, small_beam, small_head
from tests.slow import SlowBook, numbers_of, some_book, some_done_book, some_free_book
from tests.test_pairs import far_book

BEAM = Beam(0, 20, Head("a", 1, 1, ["cut"], 2), Head("b", 1, 1, ["cut", "saw"], 1))
BOOK = Book(BEAM, Job("x", "cut", Line(0, 10)), Job("y", "saw", Line(3, 9, [(2, 1)])))
STUCK = Book(BEAM, Job("x", "cut", Line(0, 10)), Job("y", "cut", Line(0, 11)))
EMPTY = Book(BEAM)


def some_books(seed, many):
    random = Random(seed)
    for at in range(many):
        yield random, (some_book, some_done_book, some_free_book, some_free_book, some_free_book)[at % 5](random)


class TestDifference(ErrorCase):

    def check(self, book, other):
        """The sides on which some assignment is missing, from all dicts."""
        first, second = SlowBook(book).assignments, SlowBook(other).assignments
        only = {1: [numbers for numbers in first if numbers not in second],
                2: [numbers for numbers in second if numbers not in first]}
        found = difference(book, other)
        if found is None:
            self.assertEqual(only, {1: [], 2: []})
        else:
            self.assertIs(type(found), tuple)
            side, numbers = found
            self.assertIn(numbers, only[side])
            self.assertEqual(list(numbers), book.names())
        return found and found[0], bool(only[1]), bool(only[2])

    def other_book(self, random, book):
        """A book with the same names and as many heads."""
        way = random.randrange(4)
        if way == 0:
            return some_free_book(random, many=len(book.beam), jobs=len(book))
        if way == 1:
            return book.scaled(speed=2)
        if way == 2 and book.beam.room >= len(book.beam):
            return book.wider(1)
        jobs = [job.later(random.randint(0, 1)).moved(random.randint(0, 1)) for job in book.jobs]
        return Book(book.beam, *jobs)

    def test_against_all_assignments(self):
        found = []
        for random, book in some_books(651, 120):
            other = self.other_book(random, book)
            found += [self.check(book, other), self.check(other, book)]
        self.assertTrue({(None, False, False), (1, True, False), (2, False, True)} <= set(found))
        self.assertTrue(any(row[1:] == (True, True) for row in found))

    def test_alike(self):
        for _, book in some_books(652, 30):
            for other in (book, book.later(-FAR), book.moved(3), book.backward(), book.scaled(parts=3, speed=3),
                          far_book(book, 10 ** 20, 10 ** 38), book.later(4).moved(-4)):
                self.assertIsNone(difference(book, other))
                self.assertIsNone(difference(other, book))

    def test_in_numbers(self):
        slower = BOOK.scaled(speed=0).without("y").with_job(BOOK.job("y"))
        self.same(difference(BOOK, slower), (1, {"x": 1, "y": 2}))
        self.same(difference(slower, BOOK), (2, {"x": 1, "y": 2}))
        self.same(difference(BOOK, BOOK.with_beam(BEAM.moved(1))), None)
        self.assertIsNone(difference(other=BOOK, book=BOOK))
        faster = BOOK.scaled(speed=5)
        self.assertIsNone(difference(BOOK, faster))
        one = BOOK.without("y")
        self.same(difference(one, one.with_beam(BEAM.with_head(small_head("a", kinds=["saw"])))), (1, {"x": 1}))
        self.same(difference(one.with_beam(BEAM.with_head(small_head("b", kinds=["saw"]))), one), (2, {"x": 2}))

    def test_without_jobs_and_without_assignments(self):
        self.assertIsNone(difference(EMPTY, Book(small_beam(2, 5))))
        self.assertIsNone(difference(STUCK, STUCK.later(9)))
        self.same(difference(STUCK, BOOK)[0], 2)
        self.same(difference(BOOK, STUCK)[0], 1)

    def test_only_a_middle_number_is_missing(self):
        beam = small_beam(3, 30, [(9, ())] * 3)
        book = Book(beam, Job("x", "cut", Line(0, 12)))
        other = book.with_beam(beam.with_head(small_head("b", kinds=["saw"])))
        self.same([difference(book, other), difference(other, book)], [(1, {"x": 2}), (2, {"x": 2})])

    def test_books_that_are_unlike(self):
        books = [BOOK, EMPTY, BOOK.without("x"), BOOK.without("y"),
                 BOOK.without("y").with_job(Job("z", "cut", Line(0, 9)))]
        for book in books:
            for other in books:
                if book.names() == other.names():
                    self.assertIsNone(difference(book, other))
                else:
                    self.fails(UnlikeBooks(), difference, book, other)
        for many in (1, 3, 4):
            other = BOOK.with_beam(small_beam(many, 9))
            self.fails(UnlikeBooks(), difference, BOOK, other)
            self.fails(UnlikeBooks(), difference, other, BOOK)
            self.fails(UnlikeBooks(), difference, EMPTY, Book(small_beam(many, 9)))
            self.fails(UnlikeBooks(), difference, STUCK, other)

    def test_names_of_heads_and_kinds_play_no_part(self):
        heads = [Head("p", 1, 1, ["dye"], 2), Head("q", 1, 1, ["dye", "saw"], 1)]
        other = Book(Beam(0, 20, *heads), Job("x", "dye", Line(0, 10)), Job("y", "saw", Line(3, 9, [(2, 1)])))
        self.assertIsNone(difference(BOOK, other))


class TestNeedless(ErrorCase):

    def test_against_all_assignments(self):
        found = []
        for _, book in some_books(661, 150):
            slow = SlowBook(book)
            for name in book.names():
                rests = SlowBook(book.without(name)).assignments
                stuck = [rest for rest in rests
                         if not any({**rest, name: number} in slow.assignments for number in numbers_of(book))]
                rest = stuck_rest(book, name)
                self.same(is_needless(book, name), not stuck)
                self.assertEqual(rest is None, not stuck)
                self.assertTrue(rest is None or rest in stuck and list(rest) == sorted(rest))
                found.append((not rests, not stuck, not slow.assignments))
        self.assertTrue({(True, True, True), (False, True, False), (False, False, True), (False, False, False)}
                        <= set(found))

    def test_in_numbers(self):
        self.same([is_needless(BOOK, "x"), is_needless(BOOK, "y")], [True, True])
        self.same([stuck_rest(BOOK, "x"), stuck_rest(BOOK, "y")], [None, None])
        self.same([is_needless(STUCK, name) for name in "xy"], [False, False])
        self.same(stuck_rest(STUCK, "x") in ({"y": 1}, {"y": 2}), True)
        book = STUCK.with_job(Job("z", "cut", Line(50, 9)))
        self.same([is_needless(book, name) for name in "xyz"], [False, False, True])
        # The second head is too slow for y, whichever head does x.
        book = Book(BEAM, Job("x", "cut", Line(0, 17)), Job("y", "cut", Line(9, 4)))
        self.same([stuck_rest(book, "x"), stuck_rest(book, "y")], [{"y": 2}, None])

    def test_the_only_job(self):
        one = EMPTY.with_job(Job("x", "cut", Line(0, 10)))
        self.same([is_needless(one, "x"), stuck_rest(one, "x")], [True, None])
        none = EMPTY.with_job(Job("x", "paint", Line(0, 10)))
        self.same([is_needless(none, "x"), stuck_rest(none, "x")], [False, {}])

    def test_a_job_in_the_way_of_both_sides(self):
        # Between the jobs of the two heads there is no room for the third job, or just enough.
        beam = small_beam(3, 20, [(0, ())] * 3)
        for place, needless in [(5, False), (6, True), (7, False)]:
            book = Book(beam, Job("l", "cut", Line(0, 4)), Job("m", "cut", Line(0, place)), Job("r", "cut", Line(0, 8)))
            self.same(is_needless(book, "m"), False)
            rest = stuck_rest(book, "m")
            self.assertTrue(is_assignment(book.without("m"), rest))
            self.assertEqual(least_assignment(book) is not None, needless)

    def test_new_dicts(self):
        none = STUCK.without("y").with_job(Job("y", "paint", Line(0, 10)))
        stuck_rest(none, "y").clear()
        self.same(stuck_rest(name="y", book=none), {"x": 1})
        self.same(is_needless(name="y", book=none), False)


class TestBlocking(ErrorCase):

    def test_against_all_assignments(self):
        sizes = set()
        for _, book in some_books(662, 150):
            wanted = []
            if not SlowBook(book).assignments:
                wanted = [name for name in book.names() if SlowBook(book.without(name)).assignments]
            found = blocking_jobs(book)
            self.same(found, wanted)
            sizes.add((refusal(book) is None, len(found)))
        self.assertTrue({(True, 0), (False, 0), (False, 1), (False, 2)} <= sizes)

    def test_in_numbers(self):
        self.same([blocking_jobs(BOOK), blocking_jobs(EMPTY), blocking_jobs(STUCK)], [[], [], ["x", "y"]])
        self.same(blocking_jobs(STUCK.with_job(Job("w", "cut", Line(90, 9)))), ["x", "y"])
        self.same(blocking_jobs(STUCK.with_job(Job("z", "cut", Line(0, 9)))), ["x"])
        self.same(blocking_jobs(STUCK.with_job(Job("z", "cut", Line(0, 12)))), ["y"])
        self.same(blocking_jobs(STUCK.with_job(Job("a", "cut", Line(0, 13)))), ["x", "y"])
        crowded = STUCK.with_job(Job("a", "cut", Line(0, 13))).with_job(Job("b", "cut", Line(0, 8)))
        self.same(blocking_jobs(crowded), [])

    def test_a_job_that_no_head_can_do(self):
        nobody = BOOK.with_job(Job("z", "paint", Line(0, 10)))
        self.same(blocking_jobs(nobody), ["z"])
        self.same(blocking_jobs(nobody.with_job(Job("a", "paint", Line(0, 10)))), [])
        self.same(blocking_jobs(EMPTY.with_job(Job("z", "cut", Line(0, 0)))), ["z"])

    def test_new_lists(self):
        blocking_jobs(STUCK).clear()
        self.same(blocking_jobs(book=STUCK), ["x", "y"])


class TestChangedBooks(ErrorCase):

    def test_the_same_answers(self):
        for _, book in some_books(663, 30):
            for changed in (book.later(-FAR), book.moved(9), book.backward(), book.scaled(parts=3, speed=3),
                            book.mirrored(), far_book(book, 10 ** 20, 10 ** 38)):
                self.same(blocking_jobs(changed), blocking_jobs(book))
                for name in book.names():
                    self.same(is_needless(changed, name), is_needless(book, name))


class TestWrong(ErrorCase):

    def test_names(self):
        for function in (is_needless, stuck_rest):
            for value in NO_NAMES + ["w", "a", "cut", BOOK]:
                self.fails(UnknownJob(value), function, BOOK, value)
                self.fails(UnknownJob(value), function, STUCK, value)
                self.fails(UnknownJob(value), function, EMPTY, value)

    def test_what_was_passed_is_not_changed(self):
        before = repr((BOOK, STUCK))
        for _ in range(2):
            self.same(difference(BOOK, STUCK), difference(BOOK, STUCK))
            self.same(stuck_rest(STUCK, "x"), stuck_rest(STUCK, "x"))
            self.same(blocking_jobs(STUCK), ["x", "y"])
        self.assertEqual(repr((BOOK, STUCK)), before)


if __name__ == "__main__":
    unittest.main()
