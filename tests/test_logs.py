from random import Random
import unittest

from beamheads.assignments import least_assignment
from beamheads.beams import Beam
from beamheads.books import Book
from beamheads.errors import InvalidAssignment, InvalidLog, InvalidNumber
from beamheads.heads import Head
from beamheads.jobs import Job
from beamheads.lines import Line
from beamheads.logs import first_wrong_row, log_fits, lowest_with_log
from beamheads.motions import highest_places, lowest_places, motion_rows
from beamheads.moving import can_move
from tests.helpers import FAR, NO_INTEGERS, NO_LISTS, ErrorCase, right_places, small_beam, small_head, some_beam
from tests.slow import (SlowBook, possible_places, some_done_book, some_motion, step_losses, steps_between_places,
                        window_of)
from tests.test_pairs import far_book

BEAM = Beam(0, 30, Head("a", 1, 1, ["cut"], 2), Head("b", 1, 1, ["cut"], 1, [(5, 0), (9, 3)]))
BOOK = Book(BEAM, Job("x", "cut", Line(0, 10)), Job("y", "cut", Line(3, 9, [(2, 1)])))
NUMBERS = {"x": 2, "y": 1}
LOG = [(0, (4, 10)), (2, (8, 12)), (9, (12, 15))]
NO_ROWS = NO_INTEGERS + [0, (), (0,), (0, (4, 10), 1), [0, (4, 10)], (0, [4, 10]), (0, (4,)), (0, (4, 10, 20)),
                         (0, ()), (0, 4), (0, None), ("0", (4, 10)), (None, (4, 10)), (True, (4, 10)),
                         (0, (4, "10")), (0, (True, 10)), (0, (4, None)), (0, ((4,), 10)), ((4, 10), 0),
                         {0: (4, 10)}, (0, {4: 10}), "ab", (0, "ab"), ((0, (4, 10)),)]
NO_LOGS = NO_LISTS + [{0: (4, 10)}, iter(LOG), [LOG] * 41]


def slow_wrong_row(beam, log):
    """The first wrong row, from the losses step by step."""
    for at, (tick, places) in enumerate(log):
        if places not in right_places(beam):
            return (at, "places")
        if at == 0:
            continue
        before, others = log[at - 1]
        for i in range(1, len(beam) + 1):
            for j in range(i, len(beam) + 1):
                reaches = sum(beam.head(k).right + beam.head(k + 1).left for k in range(i, j))
                if places[j - 1] < others[i - 1] + reaches - step_losses(beam, i, before, tick)[j]:
                    return (at, "forward", i, j)
                if others[j - 1] < places[i - 1] + reaches - step_losses(beam, i, tick, before)[j]:
                    return (at, "backward", i, j)
    return None


class TestFirstWrongRow(ErrorCase):

    def test_motions_are_right(self):
        random = Random(561)
        for _ in range(60):
            beam = some_beam(random, random.randint(1, 3))
            rows = list(some_motion(random, beam, -6, 6).items())
            ticks = sorted(random.sample(range(13), random.randint(0, 13)))
            self.assertIsNone(first_wrong_row(beam, [rows[at] for at in ticks]))
            self.assertIsNone(first_wrong_row(beam, tuple(rows)))

    def test_against_losses_step_by_step(self):
        random = Random(562)
        found = []
        for _ in range(250):
            beam = some_beam(random, random.randint(1, 4), most_room=4, fastest=2)
            right = right_places(beam)
            ticks = sorted(random.sample(range(-6, 7), random.randint(1, 4)))
            log = [(tick, random.choice(right)) for tick in ticks]
            if random.random() < 0.2:
                at = random.randrange(len(log))
                log[at] = (log[at][0], tuple(random.randint(-4, 12) for _ in range(len(beam))))
            wanted = slow_wrong_row(beam, log)
            self.same(first_wrong_row(beam, log), wanted)
            found.append(wanted)
        self.assertTrue(all(any(row and row[1] == way for row in found) for way in ("places", "forward", "backward")))
        self.assertIn(None, found)
        ways = {row[1] for row in found if row and len(row) == 4 and row[2] < row[3]}
        self.assertEqual(ways, {"forward", "backward"})

    def test_two_rows_against_all_motions(self):
        random = Random(563)
        for _ in range(60):
            beam = some_beam(random, random.randint(1, 3), most_room=3)
            right = right_places(beam)
            first, places = random.randint(-5, 5), random.choice(right)
            reached = {places}
            for step in range(first, first + 3):
                ways = steps_between_places(beam, right, step)
                reached = {others for old in reached for others in ways[old]}
            for others in right:
                wrong = first_wrong_row(beam, [(first, places), (first + 3, others)])
                self.assertEqual(wrong is None, others in reached)
                self.assertEqual(wrong is None, can_move(beam, first, places, first + 3, others))

    def test_in_numbers(self):
        self.assertIsNone(first_wrong_row(BEAM, LOG))
        for row, wanted in [
                ((12, (12, 14)), None), ((12, (12, 25)), (3, "backward", 2, 2)), ((12, (12, 24)), None),
                ((12, (5, 24)), (3, "forward", 1, 1)), ((12, (6, 24)), None), ((12, (12, 13)), (3, "places")),
                ((12, (12, 30)), (3, "places")), ((12, (19, 24)), (3, "backward", 1, 1)), ((10, (13, 18)), None),
                ((10, (13, 19)), (3, "backward", 2, 2)), ((10, (8, 11)), (3, "forward", 1, 1)),
                ((10, (10, 12)), None), ((10, (10, 13)), None)]:
            self.same(first_wrong_row(BEAM, LOG + [row]), wanted)

    def test_heads_in_the_way_of_each_other(self):
        # Each head alone is fast enough, but the first one cannot make room before the second one is there.
        beam = small_beam(2, 20, [(1, [(5, 0)]), (0, [(5, 4)])])
        self.same(first_wrong_row(beam, [(0, (5, 12)), (10, (2, 4))]), None)
        self.same(first_wrong_row(beam, [(0, (5, 12)), (10, (10, 12))]), None)
        self.same(first_wrong_row(beam, [(0, (5, 7)), (10, (9, 11))]), (1, "backward", 1, 2))
        self.same(first_wrong_row(beam, [(-10, (9, 11)), (0, (5, 7))]), (1, "forward", 1, 2))
        beam = small_beam(2, 20, [(0, [(5, 1)]), (4, [(5, 0)])])
        self.same(first_wrong_row(beam, [(0, (9, 11)), (10, (5, 7))]), (1, "forward", 1, 2))

    def test_the_first_of_several(self):
        log = [(0, (4, 10)), (1, (20, 22)), (2, (4, 3))]
        self.same(first_wrong_row(BEAM, log), (1, "backward", 1, 1))
        self.same(first_wrong_row(BEAM, [log[0], log[2]]), (1, "places"))
        self.same(first_wrong_row(BEAM, [(0, (4, 3)), (1, (20, 22))]), (0, "places"))
        self.same(first_wrong_row(BEAM, [(0, (4, 10)), (1, (7, 9)), (2, (9, 9))]), (1, "backward", 1, 1))
        self.same(first_wrong_row(BEAM, [(0, (7, 10)), (1, (4, 12))]), (1, "forward", 1, 1))
        self.same(first_wrong_row(BEAM, [(0, (7, 10)), (1, (6, 12))]), (1, "backward", 2, 2))

    def test_no_rows_and_forty_rows(self):
        self.assertIsNone(first_wrong_row(BEAM, []))
        self.assertIsNone(first_wrong_row(BEAM, ()))
        rows = [(tick, (4, 10)) for tick in range(40)]
        self.assertIsNone(first_wrong_row(BEAM, rows))
        self.assertIsNone(first_wrong_row(BEAM, tuple(rows)))
        self.same(first_wrong_row(BEAM, rows[:39] + [(39, (4, 3))]), (39, "places"))
        self.fails(InvalidLog(None), first_wrong_row, BEAM, rows + [(40, (4, 10))])
        self.fails(InvalidLog(None), first_wrong_row, BEAM, rows + [None])

    def test_far(self):
        self.assertIsNone(first_wrong_row(BEAM, [(-FAR, (1, 3)), (FAR, (27, 29))]))
        beam = Beam(0, FAR, small_head("a", speed=10 ** 19))
        self.assertIsNone(first_wrong_row(beam, [(0, (1,)), (10 ** 18, (1 + 10 ** 37,))]))
        self.same(first_wrong_row(beam, [(0, (1,)), (10 ** 18, (2 + 10 ** 37,))]), (1, "backward", 1, 1))
        self.same(first_wrong_row(beam, [(0, (2 + 10 ** 37,)), (10 ** 18, (1,))]), (1, "forward", 1, 1))

    def test_changed_beams(self):
        random = Random(564)
        for _ in range(60):
            beam = some_beam(random, random.randint(1, 3), most_room=3, fastest=1)
            right = right_places(beam)
            log = [(tick, random.choice(right)) for tick in (-4, 0, 1, 5)]
            wanted = first_wrong_row(beam, log)
            later = [(tick + FAR, places) for tick, places in log]
            self.same(first_wrong_row(beam.later(FAR), later), wanted)
            moved = [(tick, tuple(place - 9 for place in places)) for tick, places in log]
            self.same(first_wrong_row(beam.moved(-9), moved), wanted)
            scaled = [(tick, tuple(place * 5 for place in places)) for tick, places in log]
            self.same(first_wrong_row(beam.scaled(parts=5, speed=5), scaled), wanted)
            mirrored = [(tick, tuple(-place for place in places[::-1])) for tick, places in log]
            self.assertEqual(first_wrong_row(beam.mirrored(), mirrored) is None, wanted is None)
            backward = [(-tick, places) for tick, places in log[::-1]]
            self.assertEqual(first_wrong_row(beam.backward(), backward) is None, wanted is None)

    def test_arguments_by_name(self):
        self.assertIsNone(first_wrong_row(log=LOG, beam=BEAM))


class TestFitting(ErrorCase):

    def test_against_all_places_tick_by_tick(self):
        random = Random(565)
        found = []
        for _ in range(40):
            book = some_done_book(random, most_room=random.choice([1, 3, 5]), fastest=random.choice([1, 2, 3]))
            first, last = window_of(book)
            right = right_places(book.beam)
            for numbers in SlowBook(book).assignments[:2]:
                possible = possible_places(book, numbers, first, last)
                for at in range(6):
                    ticks = sorted(random.sample(range(first, last + 1), random.randint(0, 4)))
                    log = [(tick, random.choice(right if at == 0 else sorted(possible[tick]))) for tick in ticks]
                    fitting = possible_places(book, numbers, first, last, log)
                    wanted = bool(fitting[first])
                    self.same(log_fits(book, numbers, log), wanted)
                    found.append(wanted)
                    for tick in (first, random.randint(first, last), last):
                        least = tuple(min(column) for column in zip(*fitting[tick])) if wanted else None
                        self.same(lowest_with_log(book, numbers, log, tick), least)
        self.assertGreater(min(found.count(True), found.count(False)), 25)

    def test_without_jobs_a_log_fits_if_it_is_right(self):
        random = Random(566)
        for _ in range(60):
            beam = some_beam(random, random.randint(1, 3), most_room=3, fastest=2)
            right = right_places(beam)
            log = [(tick, random.choice(right)) for tick in sorted(random.sample(range(-5, 6), 3))]
            book = Book(beam)
            wanted = first_wrong_row(beam, log) is None
            self.same(log_fits(book, {}, log), wanted)
            self.same(log_fits(book, {}, log[:1] + [(20, (-99,) * len(beam))]), False)
            for at, (tick, places) in enumerate(log):
                self.same(lowest_with_log(book, {}, log[at:at + 1], tick), places)
                self.same(lowest_with_log(book, {}, log, tick), places if wanted else None)

    def test_without_rows(self):
        for log in ([], ()):
            self.same(log_fits(BOOK, NUMBERS, log), True)
            for tick in (-FAR, -1, 0, 2, 4, FAR):
                self.same(lowest_with_log(BOOK, NUMBERS, log, tick), lowest_places(BOOK, NUMBERS, tick))

    def test_the_lowest_and_the_highest_motion_fit(self):
        random = Random(567)
        for _ in range(30):
            book = some_done_book(random)
            numbers = least_assignment(book)
            lowest = list(motion_rows(book, numbers, -7, 7))
            self.same(log_fits(book, numbers, lowest), True)
            highest = [(tick, highest_places(book, numbers, tick)) for tick in range(-7, 8)]
            self.same(log_fits(book, numbers, highest), True)
            for tick, places in highest:
                self.same(lowest_with_log(book, numbers, highest, tick), places)
                self.same(lowest_with_log(book, numbers, lowest, tick), lowest_places(book, numbers, tick))

    def test_in_numbers(self):
        # Head 2 is at 10 at tick 0 and cannot leave 12 from tick 5 to 9; head 1 is at 9 at tick 3.
        for log, wanted in [([(0, (4, 10))], True), ([(0, (3, 10))], True), ([(0, (2, 10))], False),
                            ([(0, (4, 11))], False), ([(3, (9, 12))], True), ([(3, (8, 12))], False),
                            ([(7, (12, 14))], True), ([(7, (12, 16))], False), ([(7, (9, 15))], True),
                            ([(2, (7, 12)), (7, (12, 15))], True), ([(2, (7, 11)), (7, (12, 15))], False)]:
            self.same(log_fits(BOOK, NUMBERS, log), wanted)
            self.same(log_fits(BOOK, NUMBERS, tuple(log)), wanted)
            self.same(lowest_with_log(BOOK, NUMBERS, log, 5) is None, not wanted)
        self.same(lowest_with_log(BOOK, NUMBERS, [(7, (12, 15))], 5), (11, 15))
        self.same(lowest_with_log(BOOK, NUMBERS, [(7, (12, 15))], 2), (7, 12))
        self.same(lowest_with_log(BOOK, NUMBERS, [(7, (9, 13))], 8), (7, 13))

    def test_far(self):
        random = Random(568)
        for _ in range(20):
            book = some_done_book(random)
            numbers = least_assignment(book)
            log = [(tick, lowest_places(book, numbers, tick)) for tick in (-3, 0, 4)]
            far = far_book(book, 10 ** 19, 10 ** 38)
            rows = [(tick * 10 ** 19, tuple(place * 10 ** 38 for place in places)) for tick, places in log]
            self.same(log_fits(far, numbers, rows), True)
            for tick in (-9, -1, 2, 9):
                wanted = lowest_with_log(book, numbers, log, tick)
                self.same(lowest_with_log(far, numbers, rows, tick * 10 ** 19),
                          tuple(place * 10 ** 38 for place in wanted))

    def test_arguments_by_name(self):
        self.same(log_fits(log=[(0, (4, 10))], assignment={"y": 1, "x": 2}, book=BOOK), True)
        self.same(lowest_with_log(tick=0, log=[(0, (4, 10))], assignment=NUMBERS, book=BOOK), (4, 10))


class TestWrong(ErrorCase):

    def calls(self, log, tick=0):
        return [(first_wrong_row, BEAM, log), (log_fits, BOOK, NUMBERS, log),
                (lowest_with_log, BOOK, NUMBERS, log, tick)]

    def test_no_logs(self):
        for value in NO_LOGS:
            for function, *args in self.calls(value, tick=None):
                self.fails(InvalidLog(None), function, *args)

    def test_no_rows(self):
        for value in NO_ROWS:
            for position in range(4):
                rows = LOG[:position] + [value] + LOG[position:]
                for function, *args in self.calls(rows) + self.calls(rows + [None], None) + self.calls(tuple(rows)):
                    self.fails(InvalidLog(position), function, *args)

    def test_ticks_that_do_not_ascend(self):
        for tick in (2, 1, -FAR):
            for function, *args in self.calls([(2, (4, 10)), (tick, (4, 10)), None]):
                self.fails(InvalidLog(1), function, *args)
        for function, *args in self.calls([(1, (4, 10)), (2, (4, 10)), (0, (4, 10))]):
            self.fails(InvalidLog(2), function, *args)

    def test_behind_a_wrong_row(self):
        rows = [(0, (4, 10)), (1, (4, 3)), (2, (27, 29)), (3, (4,))]
        for function, *args in self.calls(rows):
            self.fails(InvalidLog(3), function, *args)
        self.same(first_wrong_row(BEAM, rows[:3]), (1, "places"))

    def test_as_many_places_as_heads(self):
        beam = small_beam(3, 9)
        self.fails(InvalidLog(0), first_wrong_row, beam, [(0, (1, 4))])
        self.assertIsNone(first_wrong_row(beam, [(0, (-2, 0, 2))]))
        self.fails(InvalidLog(1), first_wrong_row, beam, [(0, (-2, 0, 2)), (1, (-2, 0, 2, 4))])

    def test_assignments(self):
        for value in NO_INTEGERS + [0, {"x": 2}, {"x": 2, "y": 0}, {"x": 2, "y": 3}, {"x": 2, "y": 1, "z": 1},
                                    {"x": 2, "y": True}]:
            for log in (LOG, None, [None]):
                self.fails(InvalidAssignment(value), log_fits, BOOK, value, log)
                self.fails(InvalidAssignment(value), lowest_with_log, BOOK, value, log, 0)
                self.fails(InvalidAssignment(value), lowest_with_log, BOOK, value, log, None)

    def test_ticks(self):
        for value in NO_INTEGERS:
            for log in ([], [(0, (4, 10))], [(0, (9, 10))], [(0, (2, 10))]):
                self.fails(InvalidNumber(value), lowest_with_log, BOOK, NUMBERS, log, value)
            self.fails(InvalidLog(None), lowest_with_log, BOOK, NUMBERS, None, value)

    def test_what_was_passed_is_not_changed(self):
        before = repr((BOOK, BEAM, NUMBERS, LOG))
        for _ in range(2):
            self.assertIsNone(first_wrong_row(BEAM, LOG))
            self.same(log_fits(BOOK, NUMBERS, LOG), log_fits(BOOK, NUMBERS, LOG))
            self.same(lowest_with_log(BOOK, NUMBERS, LOG, 0), lowest_with_log(BOOK, NUMBERS, LOG, 0))
        self.assertEqual(repr((BOOK, BEAM, NUMBERS, LOG)), before)


if __name__ == "__main__":
    unittest.main()
