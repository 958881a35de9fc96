import itertools
from random import Random
import unittest

from beamheads.beams import Beam
from beamheads.books import Book
from beamheads.errors import SameJob, UnknownJob, UnknownNumber
from beamheads.heads import Head
from beamheads.jobs import Job
from beamheads.lines import Line
from beamheads.pairs import are_compatible, breach, excess, fitting, is_breach, misfit
from tests.helpers import FAR, NO_INTEGERS, NO_NAMES, ErrorCase, small_beam, small_head, stretched
from tests.slow import (all_excesses, numbers_of, slow_compatible, slow_excess, slow_misfit, some_book,
                        some_done_book, some_free_book, ticks_of, values_of)

BEAM = Beam(0, 20, Head("a", 1, 1, ["cut"], 2), Head("b", 1, 1, ["cut", "saw"], 1), Head("c", 1, 1, ["saw"], 0))
BOOK = Book(BEAM, Job("x", "cut", Line(0, 10)), Job("y", "saw", Line(3, 9, [(2, 1)])), Job("z", "cut", Line(0, 10)))
NO_JOB_NAMES = NO_NAMES + ["w", "a", "cut", "xy", BOOK]
NO_NUMBERS = NO_INTEGERS + [0, 4, -1, FAR, "x"]
PAIRS = (excess, breach, lambda *pair: is_breach(*pair, None))


def pairs_of(book):
    """All (one, i, other, j) with i at most j, one and other being two jobs or the same."""
    names = book.names()
    return [(one, i, other, j) for one, other in itertools.product(names, names)
            for i in numbers_of(book) for j in numbers_of(book) if i <= j]


def some_books(seed, many):
    random = Random(seed)
    for at in range(many):
        make = (some_book, some_done_book, some_free_book)[at % 3]
        yield random, make(random, jobs=random.randint(1, 3))


def far_book(book, ticks, places):
    """The book with all ticks and places multiplied (places by a multiple of ticks)."""
    jobs = [job.on(Line(job.line.first * ticks, job.line.place * places,
                        [(length * ticks, speed * places // ticks) for length, speed in job.line.legs]))
            for job in book.jobs]
    return Book(stretched(book.beam, ticks, places), *jobs)


class TestExcess(ErrorCase):

    def test_all_ticks_of_small_books(self):
        for _, book in some_books(411, 90):
            excesses = all_excesses(book)
            for pair in pairs_of(book):
                self.same(excess(book, *pair), excesses[pair])

    def test_heads_with_many_changes_and_long_lines(self):
        random = Random(412)
        for _ in range(15):
            book = some_book(random, many=random.randint(3, 5), jobs=2, fastest=4, line_speed=3)
            for pair in pairs_of(book):
                self.same(excess(book, *pair), slow_excess(book, *pair))

    def test_moments(self):
        book = Book(BEAM, Job("x", "cut", Line(0, 10)), Job("y", "cut", Line(4, 13)))
        # Head 1 loses 2 in each step, head 2 loses 1, and head 3 stands.
        self.same([excess(book, "x", 1, "y", 1), excess(book, "y", 1, "x", 1)], [-3 - 8, 3 - 8])
        self.same([excess(book, "x", 1, "y", 2), excess(book, "y", 1, "x", 2)], [-3 + 2 - 4, 3 + 2 - 4])
        self.same([excess(book, "x", 1, "y", 3), excess(book, "y", 2, "x", 3)], [-3 + 4, 3 + 2])
        self.same([excess(book, "x", 3, "x", 3), excess(book, "x", 1, "x", 3)], [0, 4])

    def test_the_greatest_value_at_a_corner_of_the_other_job(self):
        # Both lines are at the same ticks; the one stands, and the other one dips at tick 5.
        beam = small_beam(2, 30, [(9, ()), (9, ())])
        book = Book(beam, Job("x", "cut", Line(0, 10, [(10, 0)])), Job("y", "cut", Line(0, 15, [(5, -1), (5, 1)])))
        self.same(excess(book, "x", 1, "y", 2), 10 + 2 - 10)
        self.same(excess(book, "y", 1, "x", 2), 15 + 2 - 10)

    def test_the_greatest_value_at_a_change(self):
        # The head stands up to tick 5, where its line is 10 too far right; then it loses more than the line gains.
        beam = small_beam(1, 60, [(0, [(5, 3)])])
        book = Book(beam, Job("x", "cut", Line(0, 10)), Job("y", "cut", Line(0, 10, [(10, 2)])))
        self.same(excess(book, "x", 1, "y", 1), 0)
        self.same(excess(book, "y", 1, "x", 1), 10)
        self.same([is_breach(book, "y", 1, "x", 1, (s, 0)) for s in (0, 1, 5, 10)], [False, True, True, True])

    def test_far(self):
        for random, book in some_books(413, 45):
            ticks = random.choice([1, 10 ** 20, 3 * 10 ** 18 + 1])
            places = ticks * random.choice([1, 10 ** 18])
            far = far_book(book, ticks, places)
            for pair in random.choices(pairs_of(book), k=3):
                self.same(excess(far, *pair), slow_excess(book, *pair) * places)

    def test_forty_digits(self):
        beam = Beam(-FAR, FAR, Head("a", 1, FAR // 2, ["cut"], FAR, [(-FAR, 3), (FAR, 0)]),
                    Head("b", 1, 1, ["cut"], FAR, [(FAR, 1)]))
        book = Book(beam, Job("x", "cut", Line(-FAR, FAR)), Job("y", "cut", Line(FAR, -FAR, [(FAR, FAR)])))
        self.same(excess(book, "x", 1, "y", 1), 2 * FAR - 6 * FAR)
        self.same(excess(book, "x", 1, "y", 2), 2 * FAR + FAR // 2 + 1 - 6 * FAR)
        # From tick 2 * FAR at place FAR * FAR - FAR backward: head 1 stands down to FAR, then loses 3 a step.
        self.same(excess(book, "y", 1, "x", 1), FAR * FAR - FAR - 6 * FAR - FAR)
        # Head 2 loses 1 a step down to FAR, and then FAR.
        self.same(excess(book, "y", 2, "x", 2), FAR * FAR - FAR - FAR - 2 * FAR * FAR - FAR)

    def test_arguments_by_name(self):
        self.same(excess(j=2, other="y", i=1, one="x", book=BOOK), 0)
        self.same(breach(j=2, other="y", i=1, one="x", book=BOOK), None)
        self.same(is_breach(value=(0, 0), j=2, other="z", i=1, one="x", book=BOOK), True)


class TestBreach(ErrorCase):

    def test_small_books(self):
        for random, book in some_books(421, 60):
            for pair in pairs_of(book):
                values = values_of(book, *pair)
                found = breach(book, *pair)
                if max(values.values()) <= 0:
                    self.assertIsNone(found)
                    continue
                self.assertIs(type(found), tuple)
                self.assertGreater(values[found], 0)
                self.same(is_breach(book, *pair, found), True)
                self.same(breach(book, *pair), found)

    def test_all_ticks_and_some_beside_the_jobs(self):
        for _, book in some_books(422, 24):
            for pair in pairs_of(book)[:12]:
                values = values_of(book, *pair)
                for s, t in itertools.product(range(-7, 12, 1), repeat=2):
                    self.same(is_breach(book, *pair, (s, t)), values.get((s, t), 0) > 0)

    def test_not_at_corners_only(self):
        book = Book(small_beam(2, 40), Job("x", "cut", Line(0, 10, [(9, 0)])), Job("y", "cut", Line(0, 11, [(9, 0)])))
        self.same(excess(book, "x", 1, "y", 2), 1)
        for s, t in itertools.product(range(10), repeat=2):
            self.same(is_breach(book, "x", 1, "y", 2, (s, t)), s == t)
            self.same(is_breach(book, "x", 2, "y", 2, (s, t)), False)
        self.same(is_breach(book, "y", 2, "x", 2, (3, 3)), True)

    def test_other_values(self):
        for value in NO_INTEGERS + [0, "ab", (0,), (0, 0, 0), [0, 0], (0, False), (False, 0), (0, "0"), (0, None),
                                    ((0, 0),), {0: 0}, (1, 0), (0, 1), (-1, 0), (0, FAR), (0, [0])]:
            self.same(is_breach(BOOK, "x", 1, "z", 2, value), False)
        self.same(is_breach(BOOK, "x", 1, "z", 2, (0, 0)), True)

    def test_far(self):
        book = Book(small_beam(2, 9, [(0, [(FAR, 1)]), (0, ())]), Job("x", "cut", Line(-FAR, 4)),
                    Job("y", "cut", Line(-FAR, 3, [(3 * FAR, 0)])))
        found = breach(book, "x", 1, "y", 1)
        self.same(is_breach(book, "x", 1, "y", 1, found), True)
        for s, t, wanted in [(-FAR, -FAR, True), (-FAR, 0, True), (-FAR, FAR, True), (-FAR, FAR + 1, False),
                             (-FAR, 2 * FAR, False), (1 - FAR, 0, False), (-FAR, 2 * FAR + 1, False)]:
            self.same(is_breach(book, "x", 1, "y", 1, (s, t)), wanted)


class TestMisfit(ErrorCase):

    def test_small_books(self):
        found = []
        for random, book in some_books(431, 120):
            for name in book.names():
                wanted = [slow_misfit(book, name, number) for number in numbers_of(book)]
                self.same([misfit(book, name, number) for number in numbers_of(book)], wanted)
                self.same(fitting(book, name), [number for number in numbers_of(book) if wanted[number - 1] is None])
                found.extend(wanted)
        self.assertEqual({word for word in found}, {"kind", "range", "speed", None})

    def misfits(self, line, kind="cut"):
        """By heads with the ranges from 1 to 9 and from 4 to 12; the first one is fast from tick 5 on."""
        beam = Beam(0, 13, Head("a", 1, 2, ["cut", "saw"], 1, [(5, 3)]), Head("b", 1, 1, ["cut"], 2))
        book = Book(beam, Job("x", kind, line))
        self.same(beam.range_of(1) + beam.range_of(2), (1, 9, 4, 12))
        self.same(fitting(book, "x"), [number for number in (1, 2) if misfit(book, "x", number) is None])
        return [misfit(book, "x", 1), misfit(book, "x", 2)]

    def test_kind(self):
        self.same(self.misfits(Line(0, 5)), [None, None])
        self.same(self.misfits(Line(0, 5), "saw"), [None, "kind"])
        self.same(self.misfits(Line(0, 5), "paint"), ["kind", "kind"])

    def test_range(self):
        for place, wanted in [(0, ["range", "range"]), (1, [None, "range"]), (3, [None, "range"]), (4, [None, None]),
                              (9, [None, None]), (10, ["range", None]), (12, ["range", None]),
                              (13, ["range", "range"]), (FAR, ["range", "range"]), (-FAR, ["range", "range"])]:
            self.same(self.misfits(Line(0, place)), wanted)
            self.same(self.misfits(Line(0, place, [(3, 0)])), wanted)

    def test_corners_out_of_the_range(self):
        for legs, wanted in [([(4, 1)], [None, None]), ([(5, 1)], ["range", None]), ([(4, 1), (4, -1)], [None, None]),
                             ([(5, 1), (5, -1)], ["range", None]), ([(1, -1), (5, 1)], [None, None]),
                             ([(2, -1), (6, 1)], [None, "range"])]:
            self.same(self.misfits(Line(0, 5, legs)), wanted)

    def test_speed(self):
        for first, leg, wanted in [
                (0, (3, 1), [None, None]), (0, (2, 2), ["speed", None]), (0, (1, 3), ["speed", "speed"]),
                (0, (3, -1), [None, "range"]), (0, (1, -1), [None, None]), (4, (1, 3), ["speed", "speed"]),
                (5, (1, 3), [None, "speed"]), (5, (1, 4), ["speed", "speed"]), (4, (2, 2), ["speed", None]),
                (3, (2, 2), ["speed", None]), (6, (2, 2), [None, None])]:
            self.same(self.misfits(Line(first, 5, [leg])), wanted)

    def test_too_fast_in_one_step_alone(self):
        for legs in ([(1, 2)], [(2, 1), (1, 2)], [(1, -1), (1, 2), (3, 1)], [(1, 0), (1, 0), (1, -2)]):
            self.same(self.misfits(Line(0, 5, legs))[0], "speed")

    def test_several_at_once(self):
        self.same(self.misfits(Line(0, 5, [(3, 50)]), "saw"), ["range", "kind"])
        self.same(self.misfits(Line(0, 50), "paint"), ["kind", "kind"])
        self.same(self.misfits(Line(0, 9, [(1, 9)])), ["range", "range"])
        self.same(self.misfits(Line(0, 1, [(1, 8)])), ["speed", "range"])

    def test_other_jobs_play_no_part(self):
        self.same([fitting(BOOK, name) for name in "xyz"], [[1, 2], [2], [1, 2]])
        self.same([fitting(BOOK.without("z"), name) for name in "xy"], [[1, 2], [2]])
        self.same([misfit(BOOK, "y", number) for number in (1, 2, 3)], ["kind", None, "speed"])

    def test_far(self):
        beam = Beam(-FAR, FAR * FAR, Head("a", 1, 1, ["cut"], FAR - 1, [(FAR, FAR)]))
        for first, wanted in [(FAR - 1, "speed"), (FAR, None), (FAR + 1, None)]:
            self.same(misfit(Book(beam, Job("x", "cut", Line(first, 0, [(10 ** 30, FAR)]))), "x", 1), wanted)
        self.same(misfit(Book(beam, Job("x", "cut", Line(FAR, 0, [(FAR, FAR)]))), "x", 1), "range")

    def test_new_lists(self):
        fitting(BOOK, "x").append(3)
        self.same(fitting(BOOK, "x"), [1, 2])
        self.same(fitting(name="x", book=BOOK), [1, 2])
        self.same(misfit(number=1, name="y", book=BOOK), "kind")


class TestCompatible(ErrorCase):

    def test_small_books(self):
        found = []
        for _, book in some_books(441, 90):
            excesses = all_excesses(book)
            for one, other in itertools.permutations(book.names(), 2):
                for i, j in itertools.product(numbers_of(book), repeat=2):
                    wanted = slow_compatible(book, excesses, one, i, other, j)
                    self.same(are_compatible(book, one, i, other, j), wanted)
                    self.same(are_compatible(book, other, j, one, i), wanted)
                    found.append(wanted)
        self.assertGreater(min(found.count(True), found.count(False)), 100)

    def of_one_head(self, line, other, speed=1):
        book = Book(small_beam(1, 60, [(speed, ())]), Job("x", "cut", line), Job("y", "cut", other))
        self.same(are_compatible(book, "y", 1, "x", 1), are_compatible(book, "x", 1, "y", 1))
        return are_compatible(book, "x", 1, "y", 1)

    def test_shared_ticks_by_one_head(self):
        line = Line(0, 10, [(4, 1)])
        for other, wanted in [
                (Line(4, 14), True), (Line(4, 14, [(3, 0)]), True), (Line(4, 13), False), (Line(4, 15), False),
                (Line(2, 12), True), (Line(2, 11), False), (Line(3, 13, [(1, 1)]), False), (Line(3, 13), True),
                (Line(5, 14), True), (Line(5, 15), True), (Line(5, 16), False), (Line(-1, 9), True),
                (Line(-1, 11), True), (Line(-1, 12), False), (Line(-3, 7, [(3, 1)]), True),
                (Line(-3, 7, [(4, 1)]), False), (Line(0, 10), True), (line, False), (Line(0, 10, [(1, 1)]), False)]:
            self.same(self.of_one_head(line, other), wanted)

    def test_way_between_two_jobs(self):
        for speed, ticks, places in itertools.product((0, 1, 2), (1, 2, 5), range(-11, 12)):
            self.same(self.of_one_head(Line(0, 20), Line(ticks, 20 + places), speed), abs(places) <= speed * ticks)

    def test_heads_beside_each_other(self):
        for places in range(-9, 10):
            book = Book(small_beam(2, 60, [(0, ()), (0, ())], [(1, 2), (3, 1)]), Job("x", "cut", Line(0, 20)),
                        Job("y", "cut", Line(3, 20 + places)))
            self.same([are_compatible(book, "x", 1, "y", 2), are_compatible(book, "x", 2, "y", 1),
                       are_compatible(book, "x", 1, "y", 1), are_compatible(book, "x", 2, "y", 2)],
                      [places >= 5, places <= -5, places == 0, places == 0])

    def test_whether_the_heads_fit_plays_no_part(self):
        self.same([are_compatible(BOOK, "x", 1, "y", 2), are_compatible(BOOK, "x", 1, "y", 3),
                   are_compatible(BOOK, "x", 1, "z", 2), are_compatible(BOOK, "x", 1, "z", 1),
                   are_compatible(BOOK, "x", 3, "z", 3)], [True, False, False, True, True])
        book = Book(BEAM, Job("x", "paint", Line(0, 900)), Job("y", "draw", Line(0, 902)))
        self.same([are_compatible(book, "x", 1, "y", 2), are_compatible(book, "x", 2, "y", 3),
                   are_compatible(book, "x", 2, "y", 1), are_compatible(book, "x", 1, "y", 3)],
                  [True, True, False, False])

    def test_arguments_by_name(self):
        self.same(are_compatible(j=3, other="y", i=1, one="x", book=BOOK), False)
        self.same(are_compatible(i=2, one="x", j=1, other="y", book=BOOK), are_compatible(BOOK, "x", 2, "y", 1))


class TestChangedBooks(ErrorCase):
    """What the document says of books that are moved, later, mirrored and so on."""

    def check(self, book, changed, times=1, more=0):
        for one, i, other, j in pairs_of(book):
            self.same(excess(changed, one, i, other, j), excess(book, one, i, other, j) * times + more * (j - i))

    def test_excess(self):
        for _, book in some_books(451, 30):
            self.check(book, book.later(7))
            self.check(book, book.later(-FAR))
            self.check(book, book.moved(FAR))
            self.check(book, book.moved(-3))
            self.check(book, book.backward())
            self.check(book, book.scaled(parts=3, speed=3), times=3)
            self.check(book, book.scaled(parts=FAR, speed=FAR), times=FAR)
            self.check(book, book.with_beam(book.beam.wider(0)))
            if book.beam.room >= 2 * len(book.beam):
                self.check(book, book.wider(2), more=2)

    def test_mirrored_excess(self):
        for _, book in some_books(452, 30):
            last = len(book.beam) + 1
            for one, i, other, j in pairs_of(book):
                self.same(excess(book.mirrored(), other, last - j, one, last - i), excess(book, one, i, other, j))

    def test_misfits_and_compatible_heads(self):
        for _, book in some_books(453, 30):
            last = len(book.beam) + 1
            for changed in (book.later(9), book.moved(-FAR), book.backward(), book.scaled(parts=5, speed=5)):
                for one, i in itertools.product(book.names(), numbers_of(book)):
                    self.same(misfit(changed, one, i), misfit(book, one, i))
                    self.same(misfit(changed.mirrored(), one, last - i), misfit(book, one, i))
                    for other, j in itertools.product(book.names(), numbers_of(book)):
                        if one != other:
                            wanted = are_compatible(book, one, i, other, j)
                            self.same(are_compatible(changed, one, i, other, j), wanted)
                            self.same(are_compatible(changed.mirrored(), one, last - i, other, last - j), wanted)


class TestWrong(ErrorCase):

    def test_names_and_numbers(self):
        for function in PAIRS:
            for value in NO_JOB_NAMES:
                self.fails(UnknownJob(value), function, BOOK, value, 1, "y", 2)
                self.fails(UnknownJob(value), function, BOOK, "x", 1, value, 2)
            for value in NO_NUMBERS:
                self.fails(UnknownNumber(value), function, BOOK, "x", value, "y", 3)
                self.fails(UnknownNumber(value), function, BOOK, "x", 1, "y", value)
            for i, j in [(2, 1), (3, 1), (3, 2)]:
                self.fails(UnknownNumber(j), function, BOOK, "x", i, "y", j)
                self.fails(UnknownNumber(j), function, BOOK, "x", i, "x", j)

    def test_misfit_and_fitting(self):
        for value in NO_JOB_NAMES:
            self.fails(UnknownJob(value), misfit, BOOK, value, 1)
            self.fails(UnknownJob(value), misfit, BOOK, value, 0)
            self.fails(UnknownJob(value), fitting, BOOK, value)
        for value in NO_NUMBERS:
            self.fails(UnknownNumber(value), misfit, BOOK, "x", value)

    def test_are_compatible(self):
        for value in NO_JOB_NAMES:
            self.fails(UnknownJob(value), are_compatible, BOOK, value, 1, "y", 2)
            self.fails(UnknownJob(value), are_compatible, BOOK, "x", 1, value, 2)
        for value in NO_NUMBERS:
            self.fails(UnknownNumber(value), are_compatible, BOOK, "x", value, "y", 3)
            self.fails(UnknownNumber(value), are_compatible, BOOK, "x", 1, "y", value)
        for name, i, j in itertools.product("xyz", (1, 2, 3), (1, 2, 3)):
            self.fails(SameJob(name), are_compatible, BOOK, name, i, name, j)

    def test_the_first_wrong_parameter_decides(self):
        right, wrong = ["x", 1, "y", 3], ["w", 9, None, "q"]
        errors = [UnknownJob("w"), UnknownNumber(9), UnknownJob(None), UnknownNumber("q")]
        for function in PAIRS + (are_compatible,):
            for first, second in itertools.combinations_with_replacement(range(4), 2):
                pair = [wrong[at] if at in (first, second) else right[at] for at in range(4)]
                self.fails(errors[first], function, BOOK, *pair)
        self.fails(UnknownNumber(4), are_compatible, BOOK, "x", 4, "x", 4)
        self.fails(SameJob("x"), are_compatible, BOOK, "x", 1, "x", 4)
        self.fails(UnknownJob("w"), are_compatible, BOOK, "w", 1, "w", 4)

    def test_books_without_jobs_and_beams_with_one_head(self):
        for function in PAIRS + (are_compatible,):
            self.fails(UnknownJob("x"), function, Book(BEAM), "x", 1, "x", 1)
        book = Book(Beam(0, 9, small_head()), Job("x", "cut", Line(0, 4)))
        self.same([excess(book, "x", 1, "x", 1), fitting(book, "x")], [0, [1]])
        self.fails(UnknownNumber(2), excess, book, "x", 1, "x", 2)

    def test_the_book_does_not_change(self):
        before = repr(BOOK)
        for pair in pairs_of(BOOK):
            self.same(excess(BOOK, *pair), excess(BOOK, *pair))
            self.same(breach(BOOK, *pair), breach(BOOK, *pair))
        self.assertEqual(repr(BOOK), before)
        self.assertEqual([list(ticks_of(job.line)) for job in BOOK.jobs], [[0], [3, 4, 5], [0]])


if __name__ == "__main__":
    unittest.main()
