import unittest
from random import Random

from beamheads.beams import Beam
from beamheads.errors import InvalidNumber, InvalidPlaces
from beamheads.heads import Head
from beamheads.moving import can_move, earliest_arrival
from tests.helpers import FAR, NO_INTEGERS, ErrorCase, right_places, small_beam, small_head, some_beam, stretched

BEAM = Beam(0, 30, Head("a", 1, 1, ["cut"], 2), Head("b", 1, 1, ["cut"], 1, [(5, 0), (9, 3)]))
NO_PLACES = NO_INTEGERS + [0, (3,), (3, 9, 12), [3, 9], "ab", (3, "9"), (None, 9), ((3, 9),), (0, 9), (3, 30), (3, 4),
                           (9, 3), (3, 3), {3: 9, 9: 3}]


def one_step(beam, places, right, step):
    """All right places that can be reached in one step."""
    speeds = [beam.speed_at(number, step) for number in range(1, len(beam) + 1)]
    return {others for others in right
            if all(abs(new - old) <= speed for new, old, speed in zip(others, places, speeds))}


def arrivals(beam, tick, places, right, last):
    """For all right places the first tick, up to last, at which they can be reached, tick by tick."""
    found = {places: tick}
    for step in range(tick, last):
        for old in list(found):
            for others in one_step(beam, old, right, step):
                found.setdefault(others, step + 1)
    return found


class TestTables(ErrorCase):

    def check(self, beam, tick):
        right = right_places(beam)
        changes = [change for head in beam.heads for change, _ in head.changes]
        bound = max([tick] + changes) + beam.room + 1
        for places in right[:12]:
            found = arrivals(beam, tick, places, right, bound + 3)
            for others in right:
                arrival = found.get(others)
                self.assertFalse(arrival is not None and arrival > bound)
                self.same(earliest_arrival(beam, tick, places, others), arrival)
                for later in (tick, tick + 1, tick + 2, tick + 4, bound, bound + 3):
                    self.same(can_move(beam, tick, places, later, others), arrival is not None and arrival <= later)

    def test_one_head(self):
        random = Random(31)
        for _ in range(50):
            self.check(some_beam(random, many=1, most_room=6), random.randint(-6, 6))

    def test_two_heads(self):
        random = Random(32)
        for _ in range(60):
            self.check(some_beam(random, many=2, most_room=3), random.randint(-6, 6))

    def test_three_heads(self):
        random = Random(33)
        for _ in range(25):
            self.check(some_beam(random, many=3, most_room=2, fastest=2), random.randint(-6, 6))

    def test_five_heads(self):
        random = Random(34)
        for _ in range(6):
            self.check(some_beam(random, many=5, most_room=1, fastest=1), random.randint(-6, 6))

    def test_no_room(self):
        for many in range(1, 6):
            beam = small_beam(many, 0, [(0, ())] * many)
            for tick in (-5, 0, FAR):
                self.same(earliest_arrival(beam, tick, beam.packed(), beam.packed()), tick)
                self.same(can_move(beam, tick, beam.packed(), tick + 9, beam.packed()), True)


class TestMoves(ErrorCase):

    def test_the_same_tick(self):
        for tick in (-FAR, 0, 5, 9, FAR):
            self.same(can_move(BEAM, tick, (3, 9), tick, (3, 9)), True)
            self.same(can_move(BEAM, tick, (3, 9), tick, (4, 9)), False)
            self.same(can_move(BEAM, tick, (3, 9), tick, (3, 8)), False)
            self.same(earliest_arrival(BEAM, tick, (3, 9), (3, 9)), tick)

    def test_beside_the_changes(self):
        self.same([can_move(BEAM, 0, (3, 9), 5, (3, 14)), can_move(BEAM, 0, (3, 9), 4, (3, 14))], [True, False])
        self.same([can_move(BEAM, 0, (3, 9), 9, (3, 15)), can_move(BEAM, 0, (3, 9), 10, (3, 15))], [False, True])
        self.same([earliest_arrival(BEAM, 0, (3, 9), (3, 14)), earliest_arrival(BEAM, 0, (3, 9), (3, 15)),
                   earliest_arrival(BEAM, 0, (3, 9), (3, 17)), earliest_arrival(BEAM, 0, (3, 9), (3, 18)),
                   earliest_arrival(BEAM, 5, (3, 9), (3, 8)), earliest_arrival(BEAM, 0, (3, 9), (5, 10))],
                  [5, 10, 10, 11, 10, 1])

    def test_one_must_wait_for_the_other(self):
        beam = Beam(0, 30, Head("a", 1, 1, ["cut"], 5, [(10, 0)]), Head("b", 1, 1, ["cut"], 0, [(10, 5)]))
        self.same(earliest_arrival(beam, 0, (3, 5), (8, 10)), None)
        self.same(earliest_arrival(beam, 0, (8, 10), (3, 5)), 11)
        self.same(earliest_arrival(beam, 0, (3, 10), (8, 15)), 11)
        self.same(earliest_arrival(beam, 0, (3, 9), (8, 15)), None)
        self.same(can_move(beam, 0, (8, 10), 11, (3, 5)), True)
        self.same(can_move(beam, 0, (8, 10), 10, (3, 5)), False)

    def test_heads_that_stand(self):
        beam = small_beam(2, 9, [(0, [(4, 2), (6, 0)]), (0, ())])
        least, other = beam.packed()
        other = other + 9
        self.same(earliest_arrival(beam, -9, (least, other), (least + 4, other)), 6)
        self.same(earliest_arrival(beam, -9, (least, other), (least + 5, other)), None)
        self.same(earliest_arrival(beam, 5, (least, other), (least + 2, other)), 6)
        self.same(earliest_arrival(beam, 5, (least, other), (least + 3, other)), None)
        self.same(earliest_arrival(beam, 6, (least, other), (least + 1, other)), None)
        self.same(earliest_arrival(beam, -9, (least, other), (least, other - 1)), None)
        self.same(can_move(beam, -FAR, (least, other), FAR, (least, other - 1)), False)

    def test_near_places_in_a_great_room(self):
        beam = Beam(0, FAR, small_head("a", speed=3), small_head("b", speed=1))
        self.same(earliest_arrival(beam, 7, (10, 20), (15, 24)), 11)
        self.same(earliest_arrival(beam, -FAR, (10, 20), (16, 20)), 2 - FAR)

    def test_far_places(self):
        beam = Beam(0, FAR, small_head("a", speed=3), small_head("b", speed=1))
        self.same(earliest_arrival(beam, 7, (10, 20), (10, FAR - 1)), 7 + FAR - 21)
        self.same(earliest_arrival(beam, 7, (1, FAR - 1), (FAR - 4, FAR - 2)), 7 + (FAR - 5 + 2) // 3)
        self.same(can_move(beam, 0, (1, 3), FAR - 4, (1, FAR - 1)), True)
        self.same(can_move(beam, 0, (1, 3), FAR - 5, (1, FAR - 1)), False)

    def test_far_changes(self):
        late, never = 10 ** 38, FAR - 1
        beam = Beam(0, 10 ** 30, small_head("a", speed=1, changes=[(2 - late, 0), (late, 7), (never, 0)]))
        self.same(earliest_arrival(beam, -late, (1,), (3,)), 2 - late)
        self.same(earliest_arrival(beam, -late, (1,), (4,)), late + 1)
        self.same(earliest_arrival(beam, -late, (3,), (10 ** 29,)), late + (10 ** 29 - 5 + 6) // 7)
        self.same(earliest_arrival(beam, never - 1, (1,), (8,)), never)
        self.same(earliest_arrival(beam, never - 1, (1,), (9,)), None)
        self.same(earliest_arrival(beam, FAR, (1,), (2,)), None)
        self.same(can_move(beam, -FAR, (1,), FAR, (10 ** 30 - 1,)), True)

    def test_far_by_multiplying(self):
        random = Random(35)
        for _ in range(60):
            beam = some_beam(random, most_room=6)
            tick = random.randint(-6, 6)
            right = right_places(beam)
            places, others = random.choice(right), random.choice(right)
            arrival = earliest_arrival(beam, tick, places, others)
            times = random.choice([10 ** 20, 10 ** 37 + 1])
            far_places, far_others = [tuple(place * times for place in row) for row in (places, others)]
            self.same(earliest_arrival(beam.scaled(parts=times, speed=times), tick, far_places, far_others), arrival)
            far = stretched(beam, times, times)
            found = earliest_arrival(far, tick * times, far_places, far_others)
            self.assertEqual(found is None, arrival is None)
            if arrival is not None:
                self.assertTrue(found == tick * times or (arrival - 1) * times < found <= arrival * times)
                self.same(can_move(far, tick * times, far_places, found, far_others), True)
                if found > tick * times:
                    self.same(can_move(far, tick * times, far_places, found - 1, far_others), False)

    def test_backward_and_mirrored(self):
        random = Random(36)
        for _ in range(200):
            beam = some_beam(random)
            right = right_places(beam)
            places, others = random.choice(right), random.choice(right)
            tick = random.randint(-6, 3)
            later = tick + random.randint(0, 5)
            moves = can_move(beam, tick, places, later, others)
            self.same(can_move(beam.backward(), -later, others, -tick, places), moves)
            swapped = [tuple(-place for place in row[::-1]) for row in (places, others)]
            self.same(can_move(beam.mirrored(), tick, swapped[0], later, swapped[1]), moves)


class TestArguments(ErrorCase):

    def test_by_name_in_another_sequence(self):
        self.same(can_move(others=(3, 10), later=1, places=(3, 9), tick=0, beam=BEAM), True)
        self.same(can_move(others=(3, 11), later=1, places=(3, 9), tick=0, beam=BEAM), False)
        self.same(earliest_arrival(others=(3, 11), places=(3, 9), tick=0, beam=BEAM), 2)

    def test_ticks(self):
        for value in NO_INTEGERS:
            self.fails(InvalidNumber(value), can_move, BEAM, value, (3, 9), 5, (3, 9))
            self.fails(InvalidNumber(value), can_move, BEAM, 0, (3, 9), value, (3, 9))
            self.fails(InvalidNumber(value), earliest_arrival, BEAM, value, (3, 9), (3, 9))
        for tick, later in [(0, -1), (5, 4), (5, -FAR), (FAR, FAR - 1)]:
            self.fails(InvalidNumber(later), can_move, BEAM, tick, (3, 9), later, (3, 9))

    def test_places(self):
        for value in NO_PLACES:
            self.fails(InvalidPlaces(value), can_move, BEAM, 0, value, 5, (3, 9))
            self.fails(InvalidPlaces(value), can_move, BEAM, 0, (3, 9), 5, value)
            self.fails(InvalidPlaces(value), earliest_arrival, BEAM, 0, value, (3, 9))
            self.fails(InvalidPlaces(value), earliest_arrival, BEAM, 0, (3, 9), value)
        for value in [(True, 9), (False, 9), (3, True)]:
            self.fails(InvalidPlaces(value), can_move, BEAM, 0, (3, 9), 5, value)

    def test_the_first_wrong_parameter_decides(self):
        right, wrong = [0, (3, 9), 5, (3, 9)], [None, (3, 4), -1, (9, 3)]
        errors = [InvalidNumber(None), InvalidPlaces((3, 4)), InvalidNumber(-1), InvalidPlaces((9, 3))]
        for first in range(4):
            for second in range(first, 4):
                values = [wrong[at] if at in (first, second) else right[at] for at in range(4)]
                self.fails(errors[first], can_move, BEAM, *values)
                if 2 not in (first, second):
                    self.fails(errors[first], earliest_arrival, BEAM, *values[:2], values[3])

    def test_again(self):
        before = repr(BEAM)
        for _ in range(2):
            self.same(earliest_arrival(BEAM, 0, (3, 9), (3, 15)), 10)
            self.same(can_move(BEAM, 0, (3, 9), 10, (3, 15)), True)
        self.assertEqual(repr(BEAM), before)


if __name__ == "__main__":
    unittest.main()
