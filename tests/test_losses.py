import unittest
from itertools import combinations_with_replacement
from random import Random

from beamheads.beams import Beam
from beamheads.errors import InvalidNumber, UnknownNumber
from beamheads.heads import Head
from beamheads.losses import least_route, loss, route_sum
from tests.helpers import FAR, NO_INTEGERS, ErrorCase, small_beam, small_head, some_beam, stretched

BEAM = Beam(0, 99, Head("a", 1, 1, ["cut"], 0, [(10, 5)]), Head("b", 1, 1, ["cut"], 5, [(10, 0)]),
            Head("c", 1, 1, ["cut"], 3))
FUNCTIONS = (loss, least_route, lambda *ends: route_sum(*ends, None))


def steps_of(begin, end):
    """The steps of a way, in the sequence in which it goes."""
    return list(range(begin, end)) if begin < end else list(range(begin - 1, end - 1, -1))


def slow_loss(beam, i, begin, j, end):
    """The least sum, by a search of all routes, step by step."""
    steps = steps_of(begin, end)
    routes = combinations_with_replacement(range(i, j + 1), len(steps))
    return min(sum(beam.speed_at(number, step) for number, step in zip(route, steps)) for route in routes)


def slow_sum(beam, begin, end, route):
    """The sum of a right route, step by step."""
    numbers = []
    at = begin
    for number, tick in route:
        numbers.extend([number] * abs(tick - at))
        at = tick
    return sum(beam.speed_at(number, step) for number, step in zip(numbers, steps_of(begin, end), strict=True))


def pairs_of(beam):
    return [(i, j) for i in range(1, len(beam) + 1) for j in range(i, len(beam) + 1)]


class TestLoss(ErrorCase):

    def check(self, beam, begin, end):
        for i, j in pairs_of(beam):
            self.same(loss(beam, i, begin, j, end), slow_loss(beam, i, begin, j, end))

    def test_all_ways_of_small_beams(self):
        random = Random(21)
        for _ in range(150):
            beam = some_beam(random, many=random.randint(1, 3))
            for begin, end in [(-6, 6), (6, -6)] + [(random.randint(-6, 6), random.randint(-6, 6)) for _ in range(8)]:
                self.check(beam, begin, end)

    def test_all_ways_of_beams_with_many_heads(self):
        random = Random(22)
        for _ in range(40):
            beam = some_beam(random, many=random.randint(4, 5))
            for begin, end in [(-4, 4), (4, -4), (random.randint(-5, 5), random.randint(-5, 5))]:
                self.check(beam, begin, end)

    def test_beside_at_and_far_from_changes(self):
        beam = small_beam(3, 9, [(2, [(0, 0), (3, 1)]), (1, [(1, 4), (3, 0)]), (3, [(2, 0)])])
        for begin in range(-5, 7):
            for end in range(-5, 7):
                self.check(beam, begin, end)
        far = 10 ** 20
        self.same(loss(beam, 1, -far, 1, far), 2 * far + far - 3)
        self.same(loss(beam, 2, far, 2, -far), far + 1 + 2 * 4)
        self.same(loss(beam, 1, 5, 3, far), 0)
        self.same(loss(beam, 1, -far, 3, -5), far - 5)
        self.same(loss(beam, 1, far, 1, far - 3), 3)

    def test_the_same_tick(self):
        for tick in (-FAR, -1, 0, 9, 10, 11, FAR):
            for i, j in pairs_of(BEAM):
                self.same(loss(BEAM, i, tick, j, tick), 0)
                self.same(least_route(BEAM, i, tick, j, tick), [])
                self.same(route_sum(BEAM, i, tick, j, tick, []), 0)
                self.same(route_sum(BEAM, i, tick, j, tick, ()), 0)

    def test_one_head_goes_through_all_steps(self):
        head = Head("a", 1, 1, ["cut"], 2, [(0, 3), (10, 0), (20, 7)])
        beam = Beam(0, 9, head)
        self.same(loss(beam, 1, -5, 1, 25), 10 + 30 + 0 + 35)
        self.same(loss(beam, 1, 25, 1, -5), 75)
        self.same(loss(beam, 1, -1, 1, 1), 5)
        self.same(loss(beam, 1, 19, 1, 21), 7)

    def test_heads_beside_the_way_play_no_part(self):
        beam = small_beam(4, 9, [(0, ()), (5, [(3, 4)]), (6, [(2, 1)]), (0, ())])
        self.same([loss(beam, 2, 0, 3, 5), loss(beam, 3, 0, 3, 5), loss(beam, 2, 0, 2, 5)], [13, 15, 23])
        self.same([loss(beam, 1, 0, 3, 5), loss(beam, 2, 0, 4, 5), loss(beam, 2, 5, 3, 0)], [0, 0, 15])

    def test_far_by_multiplying(self):
        random = Random(23)
        for _ in range(60):
            beam = some_beam(random)
            times = random.choice([10 ** 20, 10 ** 38, 3 * 10 ** 37 + 7])
            far = stretched(beam, times, times)
            for _ in range(4):
                begin, end = random.randint(-6, 6), random.randint(-6, 6)
                for i, j in pairs_of(beam):
                    self.same(loss(far, i, begin * times, j, end * times), times * loss(beam, i, begin, j, end))
                    route = least_route(far, i, begin * times, j, end * times)
                    self.same(route_sum(far, i, begin * times, j, end * times, route),
                              times * loss(beam, i, begin, j, end))

    def test_great_speeds(self):
        beam = Beam(0, 9, Head("a", 1, 1, ["cut"], FAR, [(FAR, FAR - 1)]), Head("b", 1, 1, ["cut"], FAR - 1))
        self.same(loss(beam, 1, -FAR, 1, FAR), 2 * FAR * FAR)
        self.same(loss(beam, 1, -FAR, 2, FAR + 3), (2 * FAR + 3) * (FAR - 1))
        self.same(loss(beam, 1, FAR + 3, 1, FAR - 3), 3 * (FAR - 1) + 3 * FAR)

    def test_backward_in_time(self):
        random = Random(24)
        for _ in range(80):
            beam = some_beam(random)
            begin, end = random.randint(-9, 9), random.randint(-9, 9)
            for i, j in pairs_of(beam):
                self.same(loss(beam.backward(), i, -begin, j, -end), loss(beam, i, begin, j, end))
                self.same(loss(beam.later(5), i, begin + 5, j, end + 5), loss(beam, i, begin, j, end))
                last = len(beam) + 1
                self.same(loss(beam.mirrored(), last - j, begin, last - i, end), loss(beam, i, end, j, begin))


class TestLeastRoute(ErrorCase):

    def test_routes_of_small_beams(self):
        random = Random(25)
        for _ in range(150):
            beam = some_beam(random)
            begin, end = random.randint(-7, 7), random.randint(-7, 7)
            for i, j in pairs_of(beam):
                self.check(beam, i, begin, j, end)

    def check(self, beam, i, begin, j, end):
        route = least_route(beam, i, begin, j, end)
        self.assertIs(type(route), list)
        numbers = [number for number, _ in route]
        ticks = [begin] + [tick for _, tick in route]
        self.assertEqual(numbers, sorted(numbers))
        self.assertTrue(all(i <= number <= j for number in numbers))
        self.assertEqual(ticks, sorted(set(ticks), reverse=begin > end))
        self.assertEqual(ticks[-1], end)
        self.assertTrue(all(type(entry) is tuple and len(entry) == 2 for entry in route))
        least = loss(beam, i, begin, j, end)
        self.same(slow_sum(beam, begin, end, route), least)
        self.same(route_sum(beam, i, begin, j, end, route), least)

    def test_each_list_is_new(self):
        route = least_route(BEAM, 1, 0, 2, 20)
        wanted = list(route)
        route.append((3, 21))
        self.same(least_route(BEAM, 1, 0, 2, 20), wanted)


class TestRouteSum(ErrorCase):

    def test_routes(self):
        for route, wanted in [
                ([(1, 20)], 50), ([(2, 20)], 50), ([(3, 20)], 60), ([(1, 4), (2, 20)], 30), ([(1, 10), (2, 20)], 0),
                ([(1, 1), (1, 2), (1, 11), (3, 20)], 32), ([(1, 10), (3, 20)], 30), (((1, 10), (2, 20)), 0),
                ([(2, 9), (2, 10), (3, 11), (3, 20)], 80)]:
            self.same(route_sum(BEAM, 1, 0, 3, 20, route), wanted)
        for route, wanted in [([(1, 0)], 50), ([(2, 0)], 50), ([(1, 10), (2, 0)], 100), ([(2, 10), (3, 0)], 30),
                              ([(1, 19), (1, 5), (2, 4), (3, 0)], 25 + 25 + 5 + 12)]:
            self.same(route_sum(BEAM, 1, 20, 3, 0, route), wanted)

    def test_all_small_routes(self):
        random = Random(26)
        for _ in range(200):
            beam = some_beam(random)
            begin, end = random.randint(-6, 6), random.randint(-6, 6)
            i, j = random.choice(pairs_of(beam))
            steps = steps_of(begin, end)
            inner = random.sample(steps[1:], random.randint(0, max(0, len(steps) - 1))) if steps else []
            ticks = sorted(tick if begin < end else tick + 1 for tick in inner)
            ticks = (ticks if begin < end else ticks[::-1]) + ([end] if steps else [])
            numbers = sorted(random.randint(i, j) for _ in ticks)
            route = list(zip(numbers, ticks))
            self.same(route_sum(beam, i, begin, j, end, route), slow_sum(beam, begin, end, route))

    def test_far_routes(self):
        self.same(route_sum(BEAM, 1, -FAR, 3, FAR, [(1, 10 ** 20), (3, FAR)]),
                  5 * (10 ** 20 - 10) + 3 * (FAR - 10 ** 20))
        self.same(route_sum(BEAM, 1, FAR, 3, -FAR, [(1, 10 ** 20), (2, 0), (3, -FAR)]),
                  5 * (FAR - 10 ** 20) + 50 + 3 * FAR)

    def test_long_routes(self):
        route = [(1, tick) for tick in range(1, 101)] + [(2, tick) for tick in range(101, 201)]
        self.same(route_sum(BEAM, 1, 0, 2, 200, route), 450)

    def test_no_routes(self):
        for value in NO_INTEGERS + [
                0, 20, "ab", {1: 20}, {(1, 20)}, iter([(1, 20)]), [20], [(20,)], [(1, 20, 1)], [[1, 20]], ["ab"],
                [None], [(True, 20)], [(1, True), (1, 20)], [(1, False), (1, 20)], [("1", 20)], [(1, "20")],
                [(1, None)], [(None, 20)], [(0, 20)], [(4, 20)], [(1, 19)], [(1, 21)], [(1, 0), (1, 20)],
                [(1, -1), (1, 20)], [(1, 4), (1, 4), (1, 20)], [(1, 5), (1, 4), (1, 20)], [(2, 4), (1, 20)],
                [(1, 4), (3, 5), (2, 20)], [(1, 20), (1, 20)], [(1, 20), (1, 21)], [(1, 21), (1, 20)],
                [(1, 20), None], [(1, 4), [1, 20]], [[(1, 20)]], ((1, 4), 20), (1, 20), [(-1, 20)], [(1, FAR)]]:
            self.assertIsNone(route_sum(BEAM, 1, 0, 3, 20, value))
        for value in [[], (), [(1, 20)], [(1, 1), (1, 20)], [(1, 19)], [(1, -1)], [(1, 21), (1, 0)], [(2, 10), (1, 0)],
                      [(4, 0)], [(0, 0)], [(1, True), (1, 0)], [(1, False)], [(1, 0), (1, 0)], [(1, 5), (1, 6), (1, 0)]]:
            self.assertIsNone(route_sum(BEAM, 1, 20, 3, 0, value))

    def test_numbers_out_of_the_pair(self):
        self.same(route_sum(BEAM, 2, 0, 2, 20, [(2, 20)]), 50)
        for i, j, number in [(2, 2, 1), (2, 2, 3), (1, 2, 3), (2, 3, 1), (1, 1, 2)]:
            self.assertIsNone(route_sum(BEAM, i, 0, j, 20, [(number, 20)]))

    def test_no_routes_where_the_ticks_are_the_same(self):
        for value in [[(1, 5)], [(1, 4)], [(1, 6), (1, 5)], [(1, 4), (1, 5)], None, 0, "", {}, set(), False]:
            self.assertIsNone(route_sum(BEAM, 1, 5, 3, 5, value))

    def test_what_was_passed_is_not_changed(self):
        route = [(1, 4), (2, 20)]
        self.same(route_sum(BEAM, 1, 0, 2, 20, route), route_sum(BEAM, 1, 0, 2, 20, route))
        self.same(route, [(1, 4), (2, 20)])


class TestArguments(ErrorCase):

    def test_by_name_in_another_sequence(self):
        self.same(loss(end=20, j=2, begin=0, i=1, beam=BEAM), 0)
        self.same(least_route(end=20, j=2, begin=20, i=1, beam=BEAM), [])
        self.same(route_sum(value=[(1, 4), (2, 20)], end=20, j=2, begin=0, i=1, beam=BEAM), 30)

    def test_numbers_of_heads(self):
        for function in FUNCTIONS:
            for value in NO_INTEGERS + [0, 4, -1, FAR, "a"]:
                self.fails(UnknownNumber(value), function, BEAM, value, 0, 3, 5)
                self.fails(UnknownNumber(value), function, BEAM, 1, 0, value, 5)
            for i, j in [(2, 1), (3, 1), (3, 2)]:
                self.fails(UnknownNumber(j), function, BEAM, i, 0, j, 5)

    def test_ticks(self):
        for function in FUNCTIONS:
            for value in NO_INTEGERS:
                self.fails(InvalidNumber(value), function, BEAM, 1, value, 3, 5)
                self.fails(InvalidNumber(value), function, BEAM, 1, 5, 3, value)

    def test_the_first_wrong_parameter_decides(self):
        right, wrong = [1, 0, 3, 5], [9, "x", 0, None]
        errors = [UnknownNumber(9), InvalidNumber("x"), UnknownNumber(0), InvalidNumber(None)]
        for function in FUNCTIONS:
            for first in range(4):
                for second in range(first, 4):
                    ends = [wrong[at] if at in (first, second) else right[at] for at in range(4)]
                    self.fails(errors[first], function, BEAM, *ends)
        self.fails(InvalidNumber("x"), loss, BEAM, 2, "x", 1, 0)

    def test_the_beam_does_not_change(self):
        before = repr(BEAM)
        self.same(loss(BEAM, 1, -5, 3, 50), loss(BEAM, 1, -5, 3, 50))
        self.same(least_route(BEAM, 1, -5, 3, 50), least_route(BEAM, 1, -5, 3, 50))
        self.assertEqual(repr(BEAM), before)


class TestHeadNumbersOfOneHead(ErrorCase):

    def test_one_head(self):
        beam = Beam(0, 9, small_head(speed=4))
        self.same(loss(beam, 1, 2, 1, -2), 16)
        self.fails(UnknownNumber(2), loss, beam, 1, 2, 2, -2)


if __name__ == "__main__":
    unittest.main()
