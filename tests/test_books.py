import itertools
import unittest
from random import Random

from beamheads.beams import Beam
from beamheads.books import Book, Plan
from beamheads.errors import (
    BeamTooShort, InvalidBeam, InvalidJob, InvalidJobs, InvalidNumber, NameTaken, TooMany, UnknownJob,
)
from beamheads.heads import Head
from beamheads.jobs import Job
from beamheads.lines import Line
from tests.helpers import FAR, NO_COUNTS, NO_INTEGERS, NO_NAMES, NO_POSITIVES, ErrorCase, small_head

A = Head("a", 1, 1, ["cut"], 2, [(4, 0)])
B = Head("b", 2, 3, ["cut", "saw"], 1)
BEAM = Beam(0, 20, A, B)
X = Job("x", "cut", Line(0, 10))
Y = Job("y", "saw", Line(3, 9, [(2, 1)]))
Z = Job("z", "print", Line(-4, 5, [(4, 1), (3, 0)]))
BOOK = Book(BEAM, Y, Z, X)
EMPTY = Book(BEAM)
EIGHT = [Job(name, "cut", Line(at, at)) for at, name in enumerate("hgfedcba")]
NO_JOBS = [None, True, 0, 1, "x", repr(X), ("x", "cut", X.line), [X], (X,), {"x": X}, X.line, A, BEAM, BOOK, Job]


class TestParts(ErrorCase):

    def test_properties(self):
        self.same([BOOK.beam, BOOK.jobs, len(BOOK), BOOK.names()], [BEAM, (X, Y, Z), 3, ["x", "y", "z"]])
        self.same([EMPTY.beam, EMPTY.jobs, len(EMPTY), EMPTY.names()], [BEAM, (), 0, []])
        self.same(Book(BEAM, *EIGHT).names(), list("abcdefgh"))
        self.same([Book.MOST_JOBS, BOOK.MOST_JOBS], [8, 8])
        self.assertIsInstance(BOOK, Plan)

    def test_properties_cannot_be_assigned(self):
        self.refuses(BOOK, "beam", "jobs")

    def test_long_names_are_sorted_as_strings(self):
        jobs = [Job(name, "cut", Line(0, 0)) for name in ["b", "ab", "aa", "abc", "a", "zzzzzzzz"]]
        self.same(Book(BEAM, *jobs).names(), ["a", "aa", "ab", "abc", "b", "zzzzzzzz"])

    def test_job(self):
        self.same([BOOK.job("x"), BOOK.job("y"), BOOK.job("z")], [X, Y, Z])
        for value in NO_NAMES + ["a", "cut", "xy", X]:
            self.fails(UnknownJob(value), BOOK.job, value)
            self.fails(UnknownJob(value), EMPTY.job, value)

    def test_contains(self):
        self.same(["x" in BOOK, "y" in BOOK, "z" in BOOK, "a" in BOOK, "x" in EMPTY], [True, True, True, False, False])
        for value in NO_NAMES + ["cut", "xyz", X, "zy"]:
            self.same(value in BOOK, False)

    def test_names_of_jobs_have_nothing_to_do_with_heads_and_kinds(self):
        jobs = [Job("a", "b", Line(0, 0)), Job("cut", "cut", Line(0, 0)), Job("b", "nobody", Line(0, 0))]
        book = Book(BEAM, *jobs)
        self.same([book.names(), book.job("a"), book.job("cut")], [["a", "b", "cut"], jobs[0], jobs[1]])
        self.same(["saw" in book, "b" in book.without("b")], [False, False])

    def test_summary(self):
        self.same(BOOK.summary(), {"first": -4, "heads": 2, "jobs": 3, "last": 5})
        self.same(EMPTY.summary(), {"first": None, "heads": 2, "jobs": 0, "last": None})
        self.same(Book(BEAM, X).summary(), {"first": 0, "heads": 2, "jobs": 1, "last": 0})
        self.same(Book(BEAM, X, Z).summary(), {"first": -4, "heads": 2, "jobs": 2, "last": 3})
        self.assertEqual(list(BOOK.summary()), sorted(BOOK.summary()))

    def test_summary_of_a_plan(self):
        self.same(Plan.summary(BOOK), {"heads": 2, "jobs": 3})
        self.assertEqual(list(Plan.summary(BOOK)), ["heads", "jobs"])

    def test_each_list_and_dict_is_new(self):
        BOOK.names().clear()
        BOOK.summary().clear()
        self.same([BOOK.names(), len(BOOK.summary())], [["x", "y", "z"], 4])

    def test_another_sequence_of_the_jobs(self):
        for jobs in itertools.permutations((X, Y, Z)):
            self.same(Book(BEAM, *jobs), BOOK)

    def test_arguments_by_name(self):
        self.same(Book(beam=BEAM), EMPTY)
        self.same([BOOK.job(name="x"), BOOK.shared(other="z", one="x"), EMPTY.with_job(job=X), BOOK.without(name="x"),
                   BOOK.with_beam(beam=BEAM), BOOK.later(ticks=2), BOOK.moved(places=2), BOOK.wider(more=2),
                   BOOK.scaled(speed=3, parts=2)],
                  [X, (0, 0), Book(BEAM, X), Book(BEAM, Y, Z), BOOK, BOOK.later(2), BOOK.moved(2), BOOK.wider(2),
                   BOOK.scaled(parts=2, speed=3)])


class TestShared(ErrorCase):

    def test_shared(self):
        wanted = {("x", "x"): (0, 0), ("y", "y"): (3, 5), ("z", "z"): (-4, 3), ("x", "y"): None, ("x", "z"): (0, 0),
                  ("y", "z"): (3, 3)}
        for (one, other), ticks in wanted.items():
            self.same(BOOK.shared(one, other), ticks)
            self.same(BOOK.shared(other, one), ticks)

    def test_tick_by_tick(self):
        random = Random(51)
        for _ in range(40):
            jobs = [Job(name, "cut", Line(random.randint(-5, 5), 0, [(random.randint(1, 6), 1)] * random.randint(0, 1)))
                    for name in "pqrs"]
            book = Book(BEAM, *jobs)
            for one, other in itertools.product(jobs, jobs):
                ticks = [tick for tick in range(-9, 15) if tick in one.line and tick in other.line]
                self.same(book.shared(one.name, other.name), (ticks[0], ticks[-1]) if ticks else None)

    def test_far(self):
        book = Book(BEAM, Job("p", "cut", Line(-FAR, 0, [(2 * FAR, 0)])), Job("q", "cut", Line(FAR, 0, [(FAR, 0)])),
                    Job("r", "cut", Line(FAR + 1, 0)))
        self.same([book.shared("p", "q"), book.shared("q", "r"), book.shared("p", "r"), book.shared("p", "p")],
                  [(FAR, FAR), (FAR + 1, FAR + 1), None, (-FAR, FAR)])

    def test_wrong(self):
        for value in NO_NAMES + ["a", "cut", X]:
            self.fails(UnknownJob(value), BOOK.shared, value, "x")
            self.fails(UnknownJob(value), BOOK.shared, "x", value)
            self.fails(UnknownJob(value), BOOK.shared, value, None)


class TestEquality(ErrorCase):

    def test_each_part_counts(self):
        for other in [EMPTY, Book(BEAM, X, Y), Book(BEAM, X, Y, Z.later(1)), Book(BEAM.moved(1), X, Y, Z),
                      Book(BEAM, X, Y, Z, Job("a", "cut", X.line)), Book(BEAM, X, Y, Job("zz", "print", Z.line))]:
            self.assertTrue(BOOK != other)
            self.assertFalse(BOOK == other)
        self.assertFalse(BOOK != Book(Beam(0, 20, A, B), X, Y, Z))

    def test_other_values(self):
        for value in [None, 1, "x", repr(BOOK), (BEAM, X, Y, Z), [BOOK], BEAM, X, Book]:
            self.assertTrue(BOOK != value)
            self.assertFalse(BOOK == value)

    def test_repr(self):
        beam = "Beam(0, 20, Head('a', 1, 1, ('cut',), 2, ((4, 0),)), Head('b', 2, 3, ('cut', 'saw'), 1, ()))"
        self.assertEqual(repr(EMPTY), f"Book({beam})")
        self.assertEqual(repr(Book(BEAM, Y, X)), f"Book({beam}, Job('x', 'cut', Line(0, 10, ())), "
                                                 "Job('y', 'saw', Line(3, 9, ((2, 1),))))")
        self.assertEqual(eval(repr(BOOK)), BOOK)


class TestMade(ErrorCase):

    def test_with_job_and_without(self):
        self.same(EMPTY.with_job(Z).with_job(X).with_job(Y), BOOK)
        self.same(BOOK.without("y"), Book(BEAM, X, Z))
        self.same(BOOK.without("x").without("z").without("y"), EMPTY)
        self.same(BOOK.without("x").with_job(X), BOOK)
        self.same(Book(BEAM, *EIGHT[:7]).with_job(EIGHT[7]), Book(BEAM, *EIGHT))
        self.same(len(Book(BEAM, *EIGHT).without("a").with_job(X)), 8)

    def test_with_beam(self):
        other = Beam(-5, 5, small_head("z"))
        self.same(BOOK.with_beam(other), Book(other, X, Y, Z))

    def test_made(self):
        self.same(BOOK.mirrored(), Book(BEAM.mirrored(), X.mirrored(), Y.mirrored(), Z.mirrored()))
        self.same(BOOK.backward(), Book(BEAM.backward(), X.backward(), Y.backward(), Z.backward()))
        self.same(BOOK.later(-FAR), Book(BEAM.later(-FAR), X.later(-FAR), Y.later(-FAR), Z.later(-FAR)))
        self.same(BOOK.moved(7), Book(BEAM.moved(7), X.moved(7), Y.moved(7), Z.moved(7)))
        self.same(BOOK.wider(3), Book(BEAM.wider(3), X, Y, Z))
        self.same(BOOK.scaled(parts=3, speed=5), Book(BEAM.scaled(parts=3, speed=5), X.scaled(parts=3),
                                                      Y.scaled(parts=3), Z.scaled(parts=3)))
        self.same(BOOK.scaled(speed=0), Book(BEAM.scaled(speed=0), X, Y, Z))
        self.same([BOOK.scaled(), BOOK.later(0), BOOK.moved(0), BOOK.wider(0)], [BOOK] * 4)

    def test_made_in_numbers(self):
        book = Book(Beam(0, 20, A), Y)
        self.same(book.mirrored(), Book(Beam(-20, 0, A), Job("y", "saw", Line(3, -9, [(2, -1)]))))
        self.same(book.backward(), Book(Beam(0, 20, Head("a", 1, 1, ["cut"], 0, [(-4, 2)])),
                                        Job("y", "saw", Line(-5, 11, [(2, -1)]))))
        self.same(book.scaled(parts=2, speed=3), Book(Beam(0, 40, Head("a", 2, 2, ["cut"], 6, [(4, 0)])),
                                                      Job("y", "saw", Line(3, 18, [(2, 2)]))))

    def test_twice_and_taken_back(self):
        for book in (BOOK, EMPTY, Book(BEAM, *EIGHT)):
            self.same(book.mirrored().mirrored(), book)
            self.same(book.backward().backward(), book)
            self.same(book.later(7).later(-7), book)
            self.same(book.moved(7).moved(-7), book)
            self.same(book.wider(2).wider(3), book.wider(5))
            self.same(book.scaled(parts=2, speed=3).scaled(parts=5, speed=7), book.scaled(parts=10, speed=21))

    def test_the_book_itself_does_not_change(self):
        before = repr(BOOK)
        for make in (lambda: BOOK.with_job(EIGHT[0]), lambda: BOOK.without("x"), lambda: BOOK.with_beam(BEAM),
                     BOOK.mirrored, BOOK.backward, lambda: BOOK.later(5), lambda: BOOK.moved(5),
                     lambda: BOOK.wider(3), lambda: BOOK.scaled(parts=2, speed=2)):
            self.same(make(), make())
            self.assertEqual(repr(BOOK), before)

    def test_the_jobs_are_copied(self):
        jobs = [Y, X]
        book = Book(BEAM, *jobs)
        jobs.append(Z)
        self.same(book.jobs, (X, Y))


class TestWrong(ErrorCase):

    def test_beam(self):
        for value in [None, True, 0, "x", repr(BEAM), (0, 20, A, B), [BEAM], A, X, BOOK, Beam]:
            self.fails(InvalidBeam(value), Book, value)
            self.fails(InvalidBeam(value), Book, value, X, None)
            self.fails(InvalidBeam(value), BOOK.with_beam, value)

    def test_jobs(self):
        for value in NO_JOBS:
            for position in range(8):
                jobs = list(EIGHT)
                jobs[position] = value
                self.fails(InvalidJobs(position), Book, BEAM, *jobs)
                self.fails(InvalidJobs(position), Book, BEAM, *jobs[:position + 1])
        for one, other in itertools.combinations(range(8), 2):
            jobs = list(EIGHT)
            jobs[other] = Job(jobs[one].name, "other", Line(9, 9))
            self.fails(InvalidJobs(other), Book, BEAM, *jobs)
        self.fails(InvalidJobs(1), Book, BEAM, X, X, None)
        self.fails(InvalidJobs(1), Book, BEAM, X, None, X)

    def test_nine_jobs(self):
        self.same(len(Book(BEAM, *EIGHT)), 8)
        self.fails(TooMany("jobs", 8), Book, BEAM, *EIGHT, X)
        self.fails(TooMany("jobs", 8), Book, BEAM, *EIGHT, X, Y)
        self.fails(InvalidJobs(9), Book, BEAM, *EIGHT, X, X)
        self.fails(InvalidJobs(8), Book, BEAM, *EIGHT, None)

    def test_with_job(self):
        full = Book(BEAM, *EIGHT)
        for value in NO_JOBS:
            self.fails(InvalidJob(value), BOOK.with_job, value)
            self.fails(InvalidJob(value), full.with_job, value)
        self.fails(NameTaken("x"), BOOK.with_job, X)
        self.fails(NameTaken("x"), BOOK.with_job, Job("x", "other", Line(9, 9)))
        self.fails(NameTaken("a"), full.with_job, Job("a", "other", Line(9, 9)))
        self.fails(TooMany("jobs", 8), full.with_job, X)

    def test_without(self):
        for value in NO_NAMES + ["a", "cut", X]:
            self.fails(UnknownJob(value), BOOK.without, value)
            self.fails(UnknownJob(value), EMPTY.without, value)

    def test_what_is_made(self):
        before = repr(BOOK)
        for book in (BOOK, EMPTY):
            for value in NO_INTEGERS:
                self.fails(InvalidNumber(value), book.later, value)
                self.fails(InvalidNumber(value), book.moved, value)
            for value in NO_COUNTS:
                self.fails(InvalidNumber(value), book.wider, value)
                self.fails(InvalidNumber(value), book.scaled, speed=value)
            for value in NO_POSITIVES:
                self.fails(InvalidNumber(value), book.scaled, parts=value)
                self.fails(InvalidNumber(value), book.scaled, speed=-9, parts=value)
            self.fails(BeamTooShort(1), book.wider, 7)
            self.same(book.wider(6).beam.room, 1)
        self.assertEqual(repr(BOOK), before)


if __name__ == "__main__":
    unittest.main()
