import itertools
from random import Random
import unittest

from beamheads.beams import Beam
from beamheads.books import Book, Plan
from beamheads.errors import (InvalidBeam, InvalidJob, InvalidJobs, InvalidNumber, InvalidTurn, NameTaken, TooMany,
                              UnknownJob, UnknownNumber)
from beamheads.heads import Head
from beamheads.jobs import Job
from beamheads.lines import Line
from beamheads.losses import loss
from beamheads.turnbooks import TurnBook, turn_loss
from tests.helpers import ANYTHING, FAR, NO_INTEGERS, NO_NAMES, NO_POSITIVES, ErrorCase, small_beam, some_beam
from tests.slow import numbers_of, step_losses
from tests.slow_turns import TurnBeam, some_turn_book

BEAM = Beam(0, 20, Head("a", 1, 1, ["cut"], 2, [(0, 3), (5, 0)]), Head("b", 1, 1, ["cut", "saw"], 1, [(6, 4)]))
X = Job("x", "cut", Line(0, 10))
Y = Job("y", "saw", Line(6, 9, [(2, 1), (5, 0)]))
BOOK = TurnBook(BEAM, 7, X, Y)
EMPTY = TurnBook(BEAM, 7)
NO_BEAMS = NO_INTEGERS + [0, BOOK, BEAM.heads[0], X, "beam", Beam, ANYTHING]
NO_JOBS = [None, True, 0, 1, "x", [], [X], (X,), {}, {"x": X}, BEAM, BEAM.heads[0], BOOK, Line(0, 0), Job, ANYTHING]


def job(name, *line):
    return Job(name, "cut", Line(*line))


class TestTurnBook(ErrorCase):

    def test_properties(self):
        self.assertEqual([BOOK.beam, BOOK.jobs, BOOK.period], [BEAM, (X, Y), 7])
        self.same(TurnBook(BEAM, 7, Y, X).jobs, (X, Y))
        self.same([BOOK.names(), EMPTY.names(), EMPTY.jobs], [["x", "y"], [], ()])
        self.same([len(BOOK), len(EMPTY), "x" in BOOK, "y" in EMPTY, "w" in BOOK, None in BOOK, ["x"] in BOOK],
                  [2, 0, True, False, False, False, False])
        self.assertEqual(BOOK.job("y"), Y)
        self.same(TurnBook.MOST_JOBS, 5)
        self.assertTrue(issubclass(TurnBook, Plan))
        self.assertFalse(issubclass(TurnBook, Book))
        self.refuses(BOOK, "beam", "jobs", "period")

    def test_summary(self):
        self.same(BOOK.summary(), {"heads": 2, "jobs": 2, "period": 7})
        self.same(EMPTY.summary(), {"heads": 2, "jobs": 0, "period": 7})
        self.assertEqual(list(BOOK.summary()), ["heads", "jobs", "period"])
        BOOK.summary().clear()
        self.same(BOOK.summary()["period"], 7)

    def test_repr(self):
        self.assertEqual(repr(EMPTY), f"TurnBook({BEAM!r}, 7)")
        self.assertEqual(repr(TurnBook(BEAM, 7, Y, X)), f"TurnBook({BEAM!r}, 7, {X!r}, {Y!r})")

    def test_equality(self):
        self.assertEqual(TurnBook(BEAM, 7, Y, X), BOOK)
        self.assertEqual(BOOK.without("x").with_job(X), BOOK)
        for other in (EMPTY, TurnBook(BEAM, 8, X, Y), TurnBook(BEAM, 7, X), TurnBook(BEAM.moved(1), 7, X, Y),
                      TurnBook(BEAM, 7, X, Y.moved(1)), Book(BEAM, X, Y), repr(BOOK), None, 7, (BEAM, 7, X, Y)):
            self.assertNotEqual(BOOK, other)
            self.assertNotEqual(other, BOOK)
        self.assertNotEqual(Book(BEAM), EMPTY)

    def test_arguments_by_name(self):
        self.assertEqual(TurnBook(period=7, beam=BEAM), EMPTY)
        self.same(BOOK.speed_at(step=5, number=1), 0)
        self.same(BOOK.copy_of(turn=1, name="x"), Line(7, 10))
        self.assertEqual([EMPTY.with_job(job=X), BOOK.without(name="y")], [TurnBook(BEAM, 7, X)] * 2)
        self.assertEqual(BOOK.job(name="x"), X)

    def test_with_and_without_jobs(self):
        full = EMPTY
        for name in "pqrst":
            full = full.with_job(job(name, 6, 10, [(7, 0)]))
        self.same(full.names(), list("pqrst"))
        for name in "pqrst":
            self.same(full.without(name).names(), [other for other in "pqrst" if other != name])
        self.same([EMPTY.names(), full.beam == BEAM, full.period], [[], True, 7])


class TestSpeeds(ErrorCase):

    def test_each_step(self):
        self.same([BOOK.speed_at(1, step) for step in range(-8, 15)],
                  [0, 3, 3, 3, 3, 3, 0, 0, 3, 3, 3, 3, 3, 0, 0, 3, 3, 3, 3, 3, 0, 0, 3])
        self.same([BOOK.speed_at(2, step) for step in range(-8, 9)],
                  [4, 1, 1, 1, 1, 1, 1, 4, 1, 1, 1, 1, 1, 1, 4, 1, 1])
        self.same([BOOK.speed_at(1, turn * 7 + 4) for turn in (-FAR, 0, FAR)], [3] * 3)
        self.same([BOOK.speed_at(1, turn * 7 + 5) for turn in (-FAR, 0, FAR)], [0] * 3)

    def test_the_first_speed_holds_again(self):
        book = TurnBook(small_beam(1, 9, [(2, [(3, 1)])]), 4)
        self.same([book.speed_at(1, step) for step in range(-5, 9)], [1, 2, 2, 2, 1, 2, 2, 2, 1, 2, 2, 2, 1, 2])
        book = TurnBook(small_beam(1, 9, [(2, [(0, 1)])]), 4)
        self.same([book.speed_at(1, step) for step in range(-5, 5)], [1] * 10)
        book = TurnBook(small_beam(1, 9, [(2, [(0, 1)])]), 1)
        self.same([book.speed_at(1, step) for step in (-FAR, -1, 0, 1, FAR)], [1] * 5)

    def test_against_the_words(self):
        random = Random(811)
        for _ in range(40):
            book = some_turn_book(random)
            for number, step in itertools.product(numbers_of(book), range(-9, 10)):
                self.same(book.speed_at(number, step), TurnBeam(book).speed_at(number, step))

    def test_errors(self):
        for value in NO_INTEGERS + [0, 3, -1, FAR]:
            self.fails(UnknownNumber(value), BOOK.speed_at, value, 0)
            self.fails(UnknownNumber(value), BOOK.speed_at, value, None)
        for value in NO_INTEGERS:
            self.fails(InvalidNumber(value), BOOK.speed_at, 1, value)


class TestCopies(ErrorCase):

    def test_turns_of_either_sign(self):
        self.same([BOOK.copy_of("y", turn) for turn in (-2, -1, 0, 1, 3)],
                  [Line(6 + 7 * turn, 9, [(2, 1), (5, 0)]) for turn in (-2, -1, 0, 1, 3)])
        self.same(BOOK.copy_of("x", -FAR), Line(-7 * FAR, 10))
        self.same(BOOK.copy_of("x", FAR), Line(7 * FAR, 10))
        far = TurnBook(BEAM.moved(0), FAR, Job("x", "cut", Line(FAR - 1, FAR)))
        self.same(far.copy_of("x", FAR), Line(FAR - 1 + FAR * FAR, FAR))

    def test_errors(self):
        for value in NO_NAMES + ["w", "a", "cut"]:
            self.fails(UnknownJob(value), BOOK.copy_of, value, 0)
            self.fails(UnknownJob(value), BOOK.copy_of, value, None)
            self.fails(UnknownJob(value), BOOK.job, value)
            self.fails(UnknownJob(value), BOOK.without, value)
        for value in NO_INTEGERS:
            self.fails(InvalidNumber(value), BOOK.copy_of, "x", value)
        self.fails(UnknownJob("x"), EMPTY.copy_of, "x", 0)


class TestBounds(ErrorCase):

    def test_changes(self):
        for period, tick in itertools.product((1, 2, 7), range(-2, 10)):
            for number in (1, 2):
                speeds = [(1, ()), (1, ())]
                speeds[number - 1] = (1, [(tick, 2)])
                beam = small_beam(2, 9, speeds)
                if 0 <= tick < period:
                    self.same(TurnBook(beam, period).period, period)
                else:
                    self.fails(InvalidTurn("ab"[number - 1]), TurnBook, beam, period)

    def test_changes_that_are_left_out_do_not_count(self):
        head = Head("a", 1, 1, ["cut"], 2, [(-5, 2), (3, 1), (9, 1)])
        self.same(TurnBook(Beam(0, 9, head), 4).beam.heads[0].changes, ((3, 1),))
        self.fails(InvalidTurn("a"), TurnBook, Beam(0, 9, head), 3)

    def test_lines(self):
        for first, ticks in itertools.product(range(-2, 10), range(0, 10)):
            line = Line.stay(first, 9, ticks=ticks)
            if 0 <= first < 7 and ticks <= 7:
                self.same(len(TurnBook(BEAM, 7, Job("x", "cut", line))), 1)
                self.same(EMPTY.with_job(Job("x", "cut", line)).names(), ["x"])
            else:
                self.fails(InvalidTurn("x"), TurnBook, BEAM, 7, Job("x", "cut", line))
                self.fails(InvalidTurn("x"), EMPTY.with_job, Job("x", "cut", line))
        for ticks, right in [(FAR, True), (FAR + 1, False)]:
            line = Line(FAR - 1, 9, [(ticks - 1, 0), (1, FAR)])
            if right:
                TurnBook(BEAM, FAR, Job("x", "cut", line))
            else:
                self.fails(InvalidTurn("x"), TurnBook, BEAM, FAR, Job("x", "cut", line))
        self.fails(InvalidTurn("x"), TurnBook, BEAM, FAR, job("x", FAR, 9))

    def test_the_first_head_and_then_the_first_job(self):
        wrong = [job("z", 7, 9), job("y", -1, 9), job("x", 0, 9), job("w", 6, 9, [(8, 0)])]
        self.fails(InvalidTurn("w"), TurnBook, BEAM, 7, *wrong)
        self.fails(InvalidTurn("y"), TurnBook, BEAM, 7, *wrong[:3])
        self.fails(InvalidTurn("y"), TurnBook, BEAM, 7, wrong[1], wrong[0])
        late = BEAM.with_head(Head("b", 1, 1, ["cut"], 1, [(7, 0)]))
        self.fails(InvalidTurn("b"), TurnBook, late, 7, *wrong)
        later = late.with_head(Head("a", 1, 1, ["cut"], 1, [(-1, 0)]))
        self.fails(InvalidTurn("a"), TurnBook, later, 7)

    def test_lines_in_any_place(self):
        # Whether some head can do it plays no part.
        self.same(TurnBook(BEAM, 7, Job("x", "none", Line(0, FAR, [(1, -FAR)]))).names(), ["x"])


class TestWrong(ErrorCase):

    def test_beams_and_periods(self):
        for value in NO_BEAMS:
            self.fails(InvalidBeam(value), TurnBook, value, 7)
            self.fails(InvalidBeam(value), TurnBook, value, None, None)
        for value in NO_POSITIVES:
            self.fails(InvalidNumber(value), TurnBook, BEAM, value)
            self.fails(InvalidNumber(value), TurnBook, BEAM, value, None)
            self.fails(InvalidNumber(value), TurnBook, BEAM, value, X, X)

    def test_jobs(self):
        five = [job(name, 0, 9) for name in "pqrst"]
        for value in NO_JOBS:
            for position in range(5):
                jobs = list(five)
                jobs[position] = value
                self.fails(InvalidJobs(position), TurnBook, BEAM, 7, *jobs)
        for one, other in itertools.combinations(range(5), 2):
            jobs = list(five)
            jobs[other] = Job(jobs[one].name, "other", Line(9, 9))
            self.fails(InvalidJobs(other), TurnBook, BEAM, 7, *jobs)
        self.fails(TooMany("jobs", 5), TurnBook, BEAM, 7, *five, X)
        self.fails(TooMany("jobs", 5), TurnBook, BEAM, 7, *five, job("x", 9, 9))
        self.fails(InvalidJobs(6), TurnBook, BEAM, 7, *five, X, None)
        self.fails(TooMany("jobs", 5), TurnBook, BEAM, 5, *five, X)
        self.fails(InvalidTurn("a"), TurnBook, BEAM, 5, *five)

    def test_with_job(self):
        full = TurnBook(BEAM, 7, *[job(name, 0, 9) for name in "pqrst"])
        for value in NO_JOBS:
            self.fails(InvalidJob(value), BOOK.with_job, value)
            self.fails(InvalidJob(value), full.with_job, value)
        self.fails(NameTaken("x"), BOOK.with_job, job("x", 9, 9))
        self.fails(NameTaken("p"), full.with_job, job("p", 9, 9))
        self.fails(TooMany("jobs", 5), full.with_job, job("x", 9, 9))
        self.fails(InvalidTurn("w"), BOOK.with_job, job("w", 7, 9))


class TestTurnLoss(ErrorCase):

    def test_near_spans_step_by_step(self):
        random = Random(821)
        for _ in range(60):
            book = some_turn_book(random, jobs=0)
            beam = TurnBeam(book)
            for i, (begin, end) in itertools.product(numbers_of(book), [(random.randint(-9, 9), random.randint(-9, 9))
                                                                        for _ in range(6)]):
                wanted = step_losses(beam, i, begin, end)
                for j in range(i, len(book.beam) + 1):
                    self.same(turn_loss(book, i, begin, j, end), wanted[j])

    def test_spans_of_some_turns_step_by_step(self):
        random = Random(822)
        for _ in range(25):
            book = some_turn_book(random, heads=random.randint(2, 5), jobs=0, most_period=7, fastest=5)
            begin = random.randint(-20, 20)
            end = begin + random.choice([-1, 1]) * random.randint(20, 90)
            wanted = step_losses(TurnBeam(book), 1, begin, end)
            for j in numbers_of(book):
                self.same(turn_loss(book, 1, begin, j, end), wanted[j])

    def test_far_spans_by_sums_of_halves(self):
        random = Random(823)
        for _ in range(40):
            book = some_turn_book(random, heads=random.randint(1, 5), jobs=0, most_period=6, fastest=5)
            for _ in range(3):
                begin = random.choice([-FAR, -10 ** 12, -3, 0, 10 ** 15])
                end = random.choice([FAR, 10 ** 12, 4, 0, -10 ** 15])
                middle = (begin + end) // 2 + random.randint(-9, 9)
                for i in numbers_of(book):
                    for j in range(i, len(book.beam) + 1):
                        halves = [turn_loss(book, i, begin, k, middle) + turn_loss(book, k, middle, j, end)
                                  for k in range(i, j + 1)]
                        if min(begin, end) <= middle <= max(begin, end):
                            self.same(turn_loss(book, i, begin, j, end), min(halves))

    def test_many_turns_of_one_head(self):
        # In each turn head 1 moves by 15 and head 2 by 10.
        for turns in (1, 5, 10 ** 12, FAR):
            self.same([turn_loss(BOOK, 1, 0, 1, 7 * turns), turn_loss(BOOK, 2, 0, 2, 7 * turns)],
                      [15 * turns, 10 * turns])
            self.same([turn_loss(BOOK, 1, 7 * turns, 1, 0), turn_loss(BOOK, 2, -7 * turns, 2, 0)],
                      [15 * turns, 10 * turns])
            # The route is at head 1 while it stands, in the steps 5 and 6 of the turn in which it begins.
            self.same(turn_loss(BOOK, 1, 5, 2, 5 + 7 * turns), 10 * turns - 5)
            self.same(turn_loss(BOOK, 1, 7 * turns, 2, 0), 10 * turns - 5)
            self.same(turn_loss(BOOK, 1, 0, 2, 7 * turns), 10 * turns)

    def test_a_head_that_stands(self):
        book = TurnBook(small_beam(3, 9, [(2, ()), (0, ()), (1, [(3, 0)])]), 5)
        for begin, end in itertools.product((-FAR, -3, 0, 4, FAR), repeat=2):
            self.same([turn_loss(book, 1, begin, 2, end), turn_loss(book, 2, begin, 3, end)], [0, 0])
            self.same(turn_loss(book, 1, begin, 1, end), 2 * abs(end - begin))

    def test_one_beam_in_books_of_other_periods(self):
        random = Random(824)
        for _ in range(30):
            beam = some_beam(random, fastest=4)
            ticks = [tick for head in beam.heads for tick, _ in head.changes]
            beam = beam.later(-min(ticks, default=0))
            last = max([tick for head in beam.heads for tick, _ in head.changes], default=0)
            steady = all(head.changes == () for head in beam.heads)
            for period in (last + 1, last + 4, FAR):
                book = TurnBook(beam, period)
                for i in numbers_of(book):
                    for j in range(i, len(beam) + 1):
                        begin, end = random.randint(0, period), random.randint(0, period)
                        self.same(turn_loss(book, i, begin, j, end), loss(beam, i, begin, j, end))
                        self.same(turn_loss(book, i, begin - FAR * period, j, end - FAR * period),
                                  loss(beam, i, begin, j, end))
                        if steady:
                            self.same(turn_loss(book, i, -begin, j, FAR * end), loss(beam, i, -begin, j, FAR * end))

    def test_no_ticks(self):
        for begin, (i, j) in itertools.product((-FAR, -7, 0, 3, 7), [(1, 1), (1, 2), (2, 2)]):
            self.same(turn_loss(BOOK, i, begin, j, begin), 0)
        self.same(turn_loss(end=7, j=2, begin=0, i=1, book=BOOK), 10)

    def test_errors(self):
        for value in NO_INTEGERS + [0, 3, -1, FAR]:
            self.fails(UnknownNumber(value), turn_loss, BOOK, value, 0, 1, 0)
            self.fails(UnknownNumber(value), turn_loss, BOOK, value, None, None, None)
            self.fails(UnknownNumber(value), turn_loss, BOOK, 1, 0, value, 0)
            self.fails(UnknownNumber(value), turn_loss, BOOK, 1, 0, value, None)
        self.fails(UnknownNumber(1), turn_loss, BOOK, 2, 0, 1, 0)
        for value in NO_INTEGERS:
            self.fails(InvalidNumber(value), turn_loss, BOOK, 1, value, 1, 0)
            self.fails(InvalidNumber(value), turn_loss, BOOK, 2, value, 1, None)
            self.fails(InvalidNumber(value), turn_loss, BOOK, 1, 0, 1, value)


if __name__ == "__main__":
    unittest.main()
