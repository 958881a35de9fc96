import itertools
from random import Random
import unittest

from beamheads.beams import Beam
from beamheads.errors import InvalidNumber
from beamheads.folds import is_turn_refusal, least_repeated, turn_refusal
from beamheads.heads import Head
from beamheads.jobs import Job
from beamheads.lines import Line
from beamheads.turnbooks import TurnBook
from beamheads.windows import is_window, is_window_refusal, least_in_window, window_refusal
from tests.helpers import ANYTHING, FAR, NO_INTEGERS, ErrorCase, small_beam
from tests.slow_turns import SlowTurns, least_rows, slow_windows, some_done_turn_book, some_turn_book
from tests.test_turnlinks import far_book

# The line takes a whole turn and ends so far right that only a head further right can begin it again.
BEAM = Beam(0, 40, *[Head(name, 1, 1, ["cut"], 1) for name in "abc"])
RISING = TurnBook(BEAM, 4, Job("x", "cut", Line(0, 20, [(3, -1), (1, 0)])))
EMPTY = TurnBook(BEAM, 4)
CALLS = (least_in_window, window_refusal, lambda book, many: is_window_refusal(book, many, None))


def some_books(seed, many):
    random = Random(seed)
    for at in range(many):
        if at % 2:
            yield random, some_long_lines(random)
            continue
        make = (some_turn_book, some_done_turn_book)[at % 4 // 2]
        yield random, make(random, heads=random.randint(1, 3), jobs=random.choice([1, 1, 2]))


def some_long_lines(random):
    """A turn book with a line of a whole turn that often does not end at its first place, and perhaps a moment."""
    period = random.randint(3, 4)
    beam = small_beam(random.randint(2, 3), random.randint(5, 9), [(random.randint(1, 2), ()) for _ in range(3)])
    steps = random.randint(1, period)
    legs = [(steps, random.choice([-1, 0, 1]))] + [(period - steps, 0)] * (steps < period)
    jobs = [Job("x", "cut", Line(random.randint(0, 1), random.randint(beam.left + 4, beam.right - 4), legs))]
    if random.random() < 0.3:
        jobs.append(Job("y", "cut", Line(random.randint(0, 2), random.randint(beam.left + 1, beam.right - 1))))
    return TurnBook(beam, period, *jobs)


class TestLeast(ErrorCase):

    def test_by_trying(self):
        found = []
        for random, book in some_books(841, 160):
            slow = SlowTurns(book, 3)
            for many in range(0, 4):
                if len(slow.all_dicts) ** many > 800:
                    continue
                windows = slow_windows(slow, many)
                wanted = least_rows(windows) if windows else None
                self.same(least_in_window(book, many), wanted)
                if wanted:
                    found.append(any(row != wanted[0] for row in wanted))
                else:
                    found.append(wanted)
        self.assertGreater(min(found.count(True), found.count(None)), 8)

    def test_copies_of_one_job_with_different_heads(self):
        self.same([least_in_window(RISING, many) for many in range(5)],
                  [[], [{"x": 1}], [{"x": 1}, {"x": 2}], [{"x": 1}, {"x": 2}, {"x": 3}], None])
        self.same(least_repeated(RISING), None)

    def test_many_turns(self):
        # Five heads: in each turn the copy goes on to the next one, up to the last one.
        beam = Beam(0, 60, *[Head(name, 1, 1, ["cut"], 1) for name in "abcde"])
        book = TurnBook(beam, 4, Job("x", "cut", Line(0, 30, [(3, -1), (1, 0)])))
        self.same(least_in_window(book, 5), [{"x": number} for number in range(1, 6)])
        self.same([least_in_window(book, many) for many in range(6, 13)], [None] * 7)
        easy = TurnBook(beam, 4, Job("x", "cut", Line(0, 30)), Job("y", "cut", Line(0, 32)))
        self.same(least_in_window(easy, 12), [{"x": 1, "y": 2}] * 12)
        self.same(window_refusal(easy, 12), None)

    def test_some_more_turns(self):
        for random, book in some_books(842, 60):
            slow = SlowTurns(book, 5)
            if len(slow.names) != 1:
                continue
            windows = slow_windows(slow, 5) if slow.many < 3 else slow_windows(slow, 4)
            many = 5 if slow.many < 3 else 4
            self.same(least_in_window(book, many), least_rows(windows) if windows else None)

    def test_far(self):
        for random, book in some_books(843, 40):
            far = far_book(book, 10 ** 19, 10 ** 38)
            for many in (1, 2, 5):
                self.same(least_in_window(far, many), least_in_window(book, many))

    def test_new_lists(self):
        found = least_in_window(many=2, book=RISING)
        found[0].clear()
        found.pop()
        self.same(least_in_window(RISING, 2), [{"x": 1}, {"x": 2}])
        two = TurnBook(BEAM, 4, Job("y", "cut", Line(0, 20)), Job("x", "cut", Line(1, 20)))
        self.assertEqual([list(row) for row in least_in_window(two, 3)], [["x", "y"]] * 3)
        self.same([least_in_window(EMPTY, many) for many in (0, 1, 3)], [[], [{}], [{}, {}, {}]])


class TestIsWindow(ErrorCase):

    def test_by_trying(self):
        told = []
        for random, book in some_books(851, 80):
            slow = SlowTurns(book, 3)
            for many in range(0, 4):
                if len(slow.all_dicts) ** many > 200:
                    continue
                for rows in itertools.product(slow.all_dicts, repeat=many):
                    wanted = slow.is_right(rows)
                    self.same(is_window(book, list(rows)), wanted)
                    self.same(is_window(book, rows), wanted)
                    told.append(wanted)
        self.assertGreater(min(told.count(True), told.count(False)), 300)

    def test_twelve_turns_and_thirteen(self):
        book = TurnBook(BEAM, 4, Job("x", "cut", Line(0, 20)))
        for many in range(0, 16):
            self.same(is_window(book, [{"x": 2}] * many), many <= 12)
            self.same(is_window(EMPTY, ({},) * many), many <= 12)
        self.same(is_window(book, [{"x": 2}] * 11 + [{"x": 1}]), True)
        self.same(is_window(RISING, [{"x": 2}, {"x": 3}]), True)
        self.same(is_window(RISING, [{"x": 1}, {"x": 3}]), False)
        self.same(is_window(RISING, [{"x": 3}, {"x": 1}]), False)

    def test_near_copies_compatible_and_far_ones_not(self):
        # In a turn the first two heads move by 10, as far as they keep away from one another; the third head moves
        # by 2. So it comes to the place of the second one a turn later, but not in two turns to that of the first one.
        beam = Beam(0, 90, Head("a", 1, 5, ["cut"], 5), Head("b", 5, 1, ["cut"], 5), Head("c", 1, 1, ["cut"], 1))
        book = TurnBook(beam, 2, Job("x", "cut", Line(0, 30)))
        self.same([is_window(book, [{"x": 1}, {"x": 2}]), is_window(book, [{"x": 2}, {"x": 3}])], [True, True])
        self.same(is_window(book, [{"x": 1}, {"x": 2}, {"x": 3}]), False)
        self.same(is_window(book, [{"x": 1}] + [{"x": 2}] * 4 + [{"x": 3}]), False)
        self.same(is_window(book, [{"x": 1}] + [{"x": 2}] * 5 + [{"x": 3}]), True)
        slow = SlowTurns(book, 6)
        for rows in itertools.product(slow.all_dicts, repeat=4):
            self.same(is_window(book, rows), slow.is_right(rows))

    def test_other_values(self):
        book = TurnBook(BEAM, 4, Job("x", "cut", Line(0, 20)))
        for value in NO_INTEGERS + [0, "xy", {}, {"x": 1}, ANYTHING, [None], [{}], [{"x": 0}], [{"x": 4}], [{"x": True}],
                                    [{"x": "1"}], [{"x": 1, "y": 1}], [{"y": 1}], [[("x", 1)]], [{"x": 1}, {}],
                                    [{"x": 1}, None], [["x"]], [{"x"}], [{1: 1}], [ANYTHING], [{"x": ANYTHING}],
                                    [{"x": 1}, {"x": 9}]]:
            self.same(is_window(book, value), isinstance(value, (list, tuple)) and len(value) == 0)
        self.same(is_window(value=[{"x": 3}, {"x": 3}], book=book), True)


class TestRefusals(ErrorCase):

    def test_by_trying(self):
        count = 0
        for random, book in some_books(861, 160):
            slow = SlowTurns(book, 3)
            for many in range(0, 4):
                if len(slow.all_dicts) ** many > 800:
                    continue
                found = window_refusal(book, many)
                self.assertEqual(found is None, slow_windows(slow, many) != [])
                if found is None:
                    continue
                self.assertIs(type(found), list)
                self.assertTrue(slow.is_refusal(found))
                self.assertTrue(all(0 <= turn < many for _, _, turn in found))
                self.same(is_window_refusal(book, many, found), True)
                self.same(is_window_refusal(book, many, tuple(found)), True)
                self.same(is_window_refusal(book, 12, found), True)
                for fewer in range(0, many):
                    self.same(is_window_refusal(book, fewer, found), max(turn for _, _, turn in found) < fewer)
                count += len({turn for _, _, turn in found}) > 1
        self.assertGreater(count, 10)

    def test_turns_outside_of_the_window(self):
        found = window_refusal(RISING, 4)
        for more in (-1, 0, 1, 8, 9, FAR):
            row = [(name, number, turn + more) for name, number, turn in found]
            self.same(is_turn_refusal(RISING, row), True)
            for many in range(13):
                self.same(is_window_refusal(RISING, many, row), all(0 <= turn < many for _, _, turn in row))

    def test_chains_that_are_changed_at_one_place(self):
        told = []
        for random, book in some_books(862, 80):
            slow = SlowTurns(book, 3)
            row = window_refusal(book, 12)
            if row is None:
                continue
            for at in range(len(row)):
                name, number, turn = row[at]
                for changed in [(name, number + 1, turn), (name, number - 1, turn), (name, number, turn + 1),
                                (name, number, turn - 1)]:
                    for value in (row[:at] + [changed] + row[at + 1:], row[:at] + row[at + 1:], row[at:]):
                        wanted = slow.is_refusal(value) and all(0 <= turn < 12 for _, _, turn in value)
                        self.same(is_window_refusal(book, 12, value), wanted)
                        told.append(wanted)
        self.assertGreater(min(told.count(True), told.count(False)), 30)

    def test_a_turn_refusal_tells_turns_that_cannot_be_done(self):
        for random, book in some_books(863, 100):
            found = turn_refusal(book)
            if found is None:
                for many in (0, 3, 12):
                    self.assertIsNotNone(least_in_window(book, many))
                continue
            first = min(turn for _, _, turn in found)
            row = [(name, number, turn - first) for name, number, turn in found]
            many = max(turn for _, _, turn in row) + 1
            if many <= 12:
                self.same(is_window_refusal(book, many, row), True)
                self.same(least_in_window(book, many), None)

    def test_great_windows(self):
        beam = small_beam(5, 30, [(1, [(2, 0), (4, 2)])] * 5)
        jobs = [Job("pqrst"[k], "cut", Line(k, 5 + 4 * k, [(1, 0)])) for k in range(5)]
        book = TurnBook(beam, 6, *jobs)
        rows = least_in_window(book, 12)
        self.same(is_window(book, rows), True)
        stuck = book.without("t").with_job(Job("t", "cut", Line(0, 6)))
        self.same(least_in_window(stuck, 12), None)
        self.same(is_window_refusal(stuck, 12, window_refusal(stuck, 12)), True)

    def test_other_values(self):
        for value in NO_INTEGERS + [0, "ab", [], (), {}, ANYTHING, [None], [("x", 1), ("x", 4)], [["x", 1, 0]],
                                    [("x", 1, 0), ("x", 4, True)], [("x", 1, 0)]]:
            self.same(is_window_refusal(RISING, 12, value), False)
        found = window_refusal(many=4, book=RISING)
        self.same(is_window_refusal(value=found, many=4, book=RISING), True)
        found.clear()
        self.same(is_window_refusal(RISING, 4, window_refusal(RISING, 4)), True)
        self.same([window_refusal(RISING, many) for many in range(4)], [None] * 4)

    def test_wrong_numbers_of_turns(self):
        for call, book in itertools.product(CALLS, (RISING, EMPTY)):
            for value in NO_INTEGERS + [-1, 13, -FAR, FAR]:
                self.fails(InvalidNumber(value), call, book, value)
            for value in (0, 12):
                call(book, value)


if __name__ == "__main__":
    unittest.main()
