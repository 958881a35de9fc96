import itertools
from random import Random
import unittest

from beamheads.assignments import greatest_assignment, least_assignment
from beamheads.beams import Beam
from beamheads.books import Book
from beamheads.errors import InvalidAssignment, InvalidNumber, NoAssignment
from beamheads.heads import Head
from beamheads.jobs import Job
from beamheads.lines import Line
from beamheads.motions import highest_of_all, highest_places, lowest_of_all, lowest_places, motion_rows
from tests.helpers import FAR, NO_INTEGERS, ErrorCase, small_beam
from tests.slow import SlowBook, possible_places, some_done_book, some_free_book, window_of
from tests.test_pairs import far_book

BEAM = Beam(0, 20, Head("a", 1, 1, ["cut"], 2), Head("b", 1, 1, ["cut", "saw"], 1))
BOOK = Book(BEAM, Job("x", "cut", Line(0, 10)), Job("y", "saw", Line(3, 9, [(2, 1)])))
EMPTY = Book(BEAM)
STUCK = Book(BEAM, Job("x", "cut", Line(0, 10)), Job("y", "cut", Line(0, 11)))
NO_ASSIGNMENTS = NO_INTEGERS + [0, {"x": 1}, {"x": 1, "y": 1}, {"x": 1, "y": 3}, {"x": True, "y": 2},
                                {"x": 1, "y": 2, "z": 1}, [("x", 1), ("y", 2)], "xy"]


def least_of(rows):
    return tuple(min(column) for column in zip(*rows))


def greatest_of(rows):
    return tuple(max(column) for column in zip(*rows))


class TestPlaces(ErrorCase):

    def test_against_all_places_tick_by_tick(self):
        random = Random(541)
        checked = 0
        for _ in range(60):
            book = some_done_book(random, most_room=random.choice([1, 3, 5]), fastest=random.choice([1, 2, 3]))
            first, last = window_of(book)
            for numbers in SlowBook(book).assignments[:3]:
                possible = possible_places(book, numbers, first - 2, last + 2)
                for tick in range(first - 2, last + 3):
                    self.same(lowest_places(book, numbers, tick), least_of(possible[tick]))
                    self.same(highest_places(book, numbers, tick), greatest_of(possible[tick]))
                    checked += 1
        self.assertGreater(checked, 500)

    def test_between_corners_and_changes(self):
        # Head 2 is slower than head 1, and has to be away from it in time.
        numbers = {"x": 1, "y": 2}
        self.same([lowest_places(BOOK, numbers, tick) for tick in range(-5, 9)],
                  [(1, 7), (2, 8), (4, 9), (6, 10), (8, 11), (10, 12), (8, 11), (6, 10), (4, 9), (2, 10), (1, 11),
                   (1, 10), (1, 9), (1, 8)])
        self.same([highest_places(BOOK, numbers, tick) for tick in range(-5, 9)],
                  [(15, 17), (14, 16), (13, 15), (12, 14), (11, 13), (10, 12), (9, 11), (8, 10), (7, 9), (8, 10),
                   (9, 11), (10, 12), (11, 13), (12, 14)])

    def test_without_jobs(self):
        for tick in (-FAR, -1, 0, 1, FAR):
            self.same([lowest_places(EMPTY, {}, tick), highest_places(EMPTY, {}, tick)], [(1, 3), (17, 19)])
            self.same([lowest_of_all(EMPTY, tick), highest_of_all(EMPTY, tick)], [(1, 3), (17, 19)])

    def test_far_ticks(self):
        beam = small_beam(3, 9, [(0, [(100, 1)]), (2, ()), (0, ())])
        book = Book(beam, Job("x", "cut", Line(0, 3)))
        self.same([lowest_places(book, {"x": 1}, tick) for tick in (-FAR, 0, 50, 100, 101, 105, FAR)],
                  [(3, 5, 7)] * 4 + [(2, 4, 7), (-2, 0, 7), (-2, 0, 7)])
        self.same([highest_places(book, {"x": 1}, tick) for tick in (-FAR, 0, 100, 103, FAR)],
                  [(3, 9, 11), (3, 9, 11), (3, 9, 11), (6, 9, 11), (7, 9, 11)])
        self.same([lowest_places(book, {"x": 3}, tick) for tick in (-FAR, FAR)], [(-2, 0, 3)] * 2)
        self.same([highest_places(book, {"x": 3}, tick) for tick in (-FAR, 0, FAR)],
                  [(-1, 1, 3), (-1, 1, 3), (-1, 1, 3)])

    def test_far(self):
        random = Random(542)
        for _ in range(20):
            book = some_done_book(random)
            numbers = least_assignment(book)
            far = far_book(book, 10 ** 19, 10 ** 38)
            for tick in range(-8, 9, 2):
                for places in (lowest_places, highest_places):
                    self.same(places(far, numbers, tick * 10 ** 19),
                              tuple(place * 10 ** 38 for place in places(book, numbers, tick)))

    def test_arguments_by_name(self):
        self.same(lowest_places(tick=0, assignment={"y": 2, "x": 1}, book=BOOK), (10, 12))
        self.same(highest_places(tick=0, assignment={"y": 2, "x": 1}, book=BOOK), (10, 12))
        self.same([lowest_of_all(tick=0, book=BOOK), highest_of_all(tick=0, book=BOOK)],
                  [lowest_of_all(BOOK, 0), highest_of_all(BOOK, 0)])
        self.same(list(motion_rows(last=0, first=0, assignment={"y": 2, "x": 1}, book=BOOK)), [(0, (10, 12))])


class TestOfAll(ErrorCase):

    def test_against_all_assignments(self):
        random = Random(551)
        many = 0
        for _ in range(60):
            book = some_free_book(random)
            assignments = SlowBook(book).assignments[:60]
            greatest, least = greatest_assignment(book), least_assignment(book)
            for tick in (-20, -5, -1, 0, 2, 6, 30):
                if not assignments:
                    self.fails(NoAssignment(), lowest_of_all, book, tick)
                    self.fails(NoAssignment(), highest_of_all, book, tick)
                    continue
                self.same(lowest_of_all(book, tick), lowest_places(book, greatest, tick))
                self.same(highest_of_all(book, tick), highest_places(book, least, tick))
                rows = [lowest_places(book, numbers, tick) for numbers in assignments[::4] + [greatest]]
                self.same(lowest_of_all(book, tick), least_of(rows))
                rows = [highest_places(book, numbers, tick) for numbers in assignments[::4] + [least]]
                self.same(highest_of_all(book, tick), greatest_of(rows))
                many += len(assignments) > 1
        self.assertGreater(many, 50)

    def test_against_all_motions_of_all_assignments(self):
        random = Random(552)
        for _ in range(20):
            book = some_done_book(random, most_room=5, many=2, jobs=2)
            first, last = window_of(book)
            tables = [possible_places(book, numbers, first, last) for numbers in SlowBook(book).assignments]
            for tick in range(first, last + 1):
                rows = [places for table in tables for places in table[tick]]
                self.same([lowest_of_all(book, tick), highest_of_all(book, tick)], [least_of(rows), greatest_of(rows)])


class TestRows(ErrorCase):

    def test_the_rows_are_a_motion_of_the_assignment(self):
        random = Random(561)
        for _ in range(60):
            book = some_done_book(random, most_room=random.choice([1, 3, 8]))
            first, last = window_of(book)
            for numbers in SlowBook(book).assignments[:3]:
                rows = list(motion_rows(book, numbers, first - 3, last + 3))
                self.assertEqual([tick for tick, _ in rows], list(range(first - 3, last + 4)))
                for row in rows:
                    self.same(row, (row[0], lowest_places(book, numbers, row[0])))
                    self.assertTrue(book.beam.are_right(row[1]))
                    for job in book.jobs:
                        if row[0] in job.line:
                            self.assertEqual(row[1][numbers[job.name] - 1], job.line.at(row[0]))
                for (tick, places), (_, others) in zip(rows, rows[1:]):
                    for number, (old, new) in enumerate(zip(places, others), 1):
                        self.assertLessEqual(abs(new - old), book.beam.speed_at(number, tick))

    def test_first_and_last(self):
        numbers = {"x": 1, "y": 2}
        self.same(list(motion_rows(BOOK, numbers, 0, 2)), [(0, (10, 12)), (1, (8, 11)), (2, (6, 10))])
        self.same(list(motion_rows(BOOK, numbers, 3, 3)), [(3, (4, 9))])
        self.same([list(motion_rows(BOOK, numbers, 3, last)) for last in (2, 1, -FAR)], [[], [], []])
        self.same(list(motion_rows(BOOK, numbers, FAR, FAR + 1)), [(FAR, (1, 3)), (FAR + 1, (1, 3))])
        self.same(list(motion_rows(BOOK, numbers, -FAR, 1 - FAR)), [(-FAR, (1, 3)), (1 - FAR, (1, 3))])
        self.same(list(motion_rows(EMPTY, {}, 7, 8)), [(7, (1, 3)), (8, (1, 3))])

    def test_one_after_the_other(self):
        row = motion_rows(BOOK, {"x": 1, "y": 2}, -FAR, FAR)
        self.assertEqual(row.__class__.__name__, "generator")
        self.same([next(row), next(row)], [(-FAR, (1, 3)), (1 - FAR, (1, 3))])
        other = motion_rows(BOOK, {"x": 1, "y": 2}, 0, 1)
        self.same([next(other), next(other), next(other, None)], [(0, (10, 12)), (1, (8, 11)), None])

    def test_errors_come_with_the_first_element(self):
        for value in NO_ASSIGNMENTS:
            for first, last in [(0, 1), (1, 0), (None, None)]:
                self.fails(InvalidAssignment(value), lambda: next(motion_rows(BOOK, value, first, last)))
        for value in NO_INTEGERS:
            self.fails(InvalidNumber(value), lambda: next(motion_rows(BOOK, {"x": 1, "y": 2}, value, None)))
            self.fails(InvalidNumber(value), lambda: next(motion_rows(BOOK, {"x": 1, "y": 2}, 0, value)))


class TestChangedBooks(ErrorCase):

    def test_places(self):
        random = Random(571)
        for _ in range(25):
            book = some_done_book(random)
            last = len(book.beam) + 1
            for numbers in SlowBook(book).assignments[:2]:
                turned = {name: last - numbers[name] for name in numbers}
                for tick, places in itertools.product(range(-6, 7, 3), (lowest_places, highest_places)):
                    wanted = places(book, numbers, tick)
                    self.same(places(book.later(FAR), numbers, tick + FAR), wanted)
                    self.same(places(book.moved(-7), numbers, tick), tuple(place - 7 for place in wanted))
                    self.same(places(book.backward(), numbers, -tick), wanted)
                    self.same(places(book.scaled(parts=4, speed=4), numbers, tick), tuple(4 * k for k in wanted))
                    other = lowest_places if places is highest_places else highest_places
                    self.same(other(book.mirrored(), turned, tick), tuple(-place for place in wanted[::-1]))

    def test_faster_heads_have_more_places(self):
        random = Random(572)
        for _ in range(15):
            book = some_done_book(random)
            numbers = least_assignment(book)
            for tick in range(-6, 7, 3):
                low, high = lowest_places(book, numbers, tick), highest_places(book, numbers, tick)
                faster = book.scaled(speed=3)
                self.assertTrue(all(k <= m for k, m in zip(lowest_places(faster, numbers, tick), low)))
                self.assertTrue(all(k >= m for k, m in zip(highest_places(faster, numbers, tick), high)))


class TestWrong(ErrorCase):

    def test_assignments(self):
        for function in (lowest_places, highest_places):
            for value in NO_ASSIGNMENTS:
                self.fails(InvalidAssignment(value), function, BOOK, value, 0)
                self.fails(InvalidAssignment(value), function, BOOK, value, None)
            self.fails(InvalidAssignment({}), function, STUCK, {}, 0)
            self.fails(InvalidAssignment({"x": 1, "y": 2}), function, STUCK, {"x": 1, "y": 2}, 0)

    def test_ticks(self):
        for value in NO_INTEGERS:
            for function in (lowest_places, highest_places):
                self.fails(InvalidNumber(value), function, BOOK, {"x": 1, "y": 2}, value)
            for function, book in itertools.product((lowest_of_all, highest_of_all), (BOOK, EMPTY, STUCK)):
                self.fails(InvalidNumber(value), function, book, value)
        for function in (lowest_of_all, highest_of_all):
            self.fails(NoAssignment(), function, STUCK, 0)

    def test_what_was_passed_is_not_changed(self):
        before = repr(BOOK)
        numbers = {"y": 2, "x": 1}
        for function in (lowest_places, highest_places):
            self.same(function(BOOK, numbers, 4), function(BOOK, numbers, 4))
        rows = list(motion_rows(BOOK, numbers, 0, 9))
        self.same(list(motion_rows(BOOK, numbers, 0, 9)), rows)
        self.assertEqual(list(numbers.items()), [("y", 2), ("x", 1)])
        self.assertEqual(repr(BOOK), before)


if __name__ == "__main__":
    unittest.main()
