import unittest
from random import Random

from beamheads.errors import InvalidLegs, InvalidLine, InvalidNumber, NoTick
from beamheads.lines import Line
from tests.helpers import FAR, NO_COUNTS, NO_INTEGERS, NO_LISTS, NO_POSITIVES, ErrorCase

LINE = Line(3, 10, [(2, 5), (1, 5), (4, 0)])
MOMENT = Line(3, 10)
ZIGZAG = Line(-2, 0, [(3, -4), (1, 9), (2, -1)])
NO_PAIRS = [1, None, True, "ab", (), (2,), (2, 1, 1), [2, 1], {2: 1, 3: 1}, (True, 1), (False, 1), (2, True), (2, False),
            ("2", 1), (2, "1"), (None, 1), (2, None), ((2, 1),)]


def walked(tick, place, legs):
    """A dict of the place at each tick, step by step."""
    places = {tick: place}
    for ticks, speed in legs:
        for _ in range(ticks):
            tick, place = tick + 1, place + speed
            places[tick] = place
    return places


def some_legs(random, many=None):
    many = random.randint(0, 3) if many is None else many
    return [(random.randint(1, 4), random.randint(-2, 2)) for _ in range(many)]


def some_line(random):
    return Line(random.randint(-9, 9), random.randint(-9, 9), some_legs(random))


def places_of(line):
    return {tick: line.at(tick) for tick in range(line.first, line.last + 1)}


class TestParts(ErrorCase):

    def test_properties(self):
        self.same([LINE.first, LINE.last, LINE.place, LINE.legs, LINE.is_moment, LINE.lowest, LINE.highest],
                  [3, 10, 10, ((3, 5), (4, 0)), False, 10, 25])
        self.same([MOMENT.first, MOMENT.last, MOMENT.place, MOMENT.legs, MOMENT.is_moment, MOMENT.lowest,
                   MOMENT.highest], [3, 3, 10, (), True, 10, 10])
        self.same([ZIGZAG.first, ZIGZAG.last, ZIGZAG.place, ZIGZAG.legs, ZIGZAG.lowest, ZIGZAG.highest],
                  [-2, 4, 0, ((3, -4), (1, 9), (2, -1)), -12, 0])
        self.same([Line.MOST_LEGS, LINE.MOST_LEGS], [3, 3])

    def test_properties_cannot_be_assigned(self):
        self.refuses(LINE, "first", "last", "place", "legs", "is_moment", "lowest", "highest")

    def test_legs_of_equal_speed_are_one(self):
        for legs, left in [
                ([], ()), ([(1, 0)], ((1, 0),)), ([(1, 2), (3, 2)], ((4, 2),)), ([(1, 2), (3, 2), (5, 2)], ((9, 2),)),
                ([(1, 2), (3, -2), (5, -2)], ((1, 2), (8, -2))), ([(1, 2), (1, 3), (1, 2)], ((1, 2), (1, 3), (1, 2))),
                (((FAR, FAR), (FAR, FAR)), ((2 * FAR, FAR),)), ([(1, 0), (1, 0), (1, 1)], ((2, 0), (1, 1)))]:
            self.same(Line(0, 0, legs).legs, left)

    def test_the_place_at_each_tick_step_by_step(self):
        random = Random(41)
        for _ in range(300):
            tick, place, legs = random.randint(-9, 9), random.randint(-9, 9), some_legs(random)
            line, places = Line(tick, place, legs), walked(tick, place, legs)
            for at in range(tick - 3, tick + 16):
                self.same(at in line, at in places)
                if at in places:
                    self.same(line.at(at), places[at])
                else:
                    self.fails(NoTick(at), line.at, at)
            self.same([line.first, line.last], [min(places), max(places)])
            self.same([line.lowest, line.highest], [min(places.values()), max(places.values())])
            self.same(line.is_moment, len(places) == 1)

    def test_corners(self):
        self.same(LINE.corners(), [(3, 10), (6, 25), (10, 25)])
        self.same(MOMENT.corners(), [(3, 10)])
        self.same(ZIGZAG.corners(), [(-2, 0), (1, -12), (2, -3), (4, -5)])
        corners = LINE.corners()
        corners.clear()
        self.same(LINE.corners(), [(3, 10), (6, 25), (10, 25)])
        self.same(LINE.last, 10)

    def test_contains_other_values(self):
        for value in NO_INTEGERS + [(3, 10), LINE, "3", [3]]:
            self.same(value in LINE, False)
        line = Line(0, 0, [(5, 1)])
        self.same([True in line, False in line, 1 in line, 0 in line, 5 in line, 6 in line, -1 in line],
                  [False, False, True, True, True, False, False])

    def test_far_lines(self):
        line = Line(-FAR, FAR, [(FAR, -2), (FAR, FAR), (1, 0)])
        self.same([line.first, line.last, line.lowest, line.highest], [-FAR, FAR + 1, -FAR, FAR * FAR - FAR])
        self.same([line.at(-FAR + 1), line.at(0), line.at(10 ** 20), line.at(FAR + 1)],
                  [FAR - 2, -FAR, 10 ** 20 * FAR - FAR, FAR * FAR - FAR])
        self.same([FAR in line, FAR + 1 in line, FAR + 2 in line, -FAR in line, -FAR - 1 in line],
                  [True, True, False, True, False])

    def test_far_by_multiplying(self):
        random = Random(42)
        for _ in range(100):
            tick, place, legs = random.randint(-9, 9), random.randint(-9, 9), some_legs(random)
            times = random.choice([10 ** 20, 10 ** 37 + 3])
            far = Line(tick * times, place * times, [(ticks * times, speed) for ticks, speed in legs])
            for at, wanted in walked(tick, place, legs).items():
                self.same(far.at(at * times), wanted * times)
            near = Line(tick, place, legs)
            self.same([far.last, far.lowest, far.highest],
                      [near.last * times, near.lowest * times, near.highest * times])

    def test_what_was_passed_is_copied(self):
        legs = [(2, 5), (4, 0)]
        line = Line(3, 10, legs)
        legs[0] = (1, 1)
        legs.append((1, 7))
        self.same([line.legs, line.last, line.at(5)], [((2, 5), (4, 0)), 9, 20])
        self.same(legs, [(1, 1), (4, 0), (1, 7)])

    def test_arguments_by_name(self):
        self.same(Line(legs=((3, 5), (4, 0)), place=10, tick=3), LINE)
        self.same([LINE.at(tick=4), LINE.later(ticks=2), LINE.moved(places=2), LINE.scaled(parts=2)],
                  [15, LINE.later(2), LINE.moved(2), Line(3, 20, [(3, 10), (4, 0)])])
        self.same(Line.stay(ticks=5, place=1, tick=2), Line(2, 1, [(5, 0)]))


class TestEquality(ErrorCase):

    def test_other_legs(self):
        self.same(LINE, Line(3, 10, ((3, 5), (4, 0))))
        self.same(LINE, Line(3, 10, [(3, 5), (1, 0), (3, 0)]))
        self.assertFalse(LINE != Line(3, 10, [(1, 5), (2, 5), (4, 0)]))

    def test_each_part_counts(self):
        for other in [Line(4, 10, LINE.legs), Line(3, 11, LINE.legs), Line(3, 10, [(3, 5), (3, 0)]),
                      Line(3, 10, [(3, 5), (4, 1)]), Line(3, 10, [(3, 5)]), MOMENT, Line(3, 10, [(4, 5), (3, 0)])]:
            self.assertTrue(LINE != other)
            self.assertFalse(LINE == other)

    def test_equal_exactly_with_the_same_ticks_and_places(self):
        random = Random(43)
        lines = [Line(random.randint(0, 1), 0, some_legs(random)) for _ in range(60)]
        for one in lines:
            for other in lines:
                self.assertEqual(one == other, places_of(one) == places_of(other))

    def test_other_values(self):
        for value in [None, 3, "a", repr(LINE), (3, 10, ((3, 5), (4, 0))), LINE.corners(), [LINE], Line]:
            self.assertFalse(LINE == value)
            self.assertTrue(LINE != value)

    def test_repr(self):
        self.assertEqual(repr(Line(3, 10, ((2, 5),))), "Line(3, 10, ((2, 5),))")
        self.assertEqual(repr(LINE), "Line(3, 10, ((3, 5), (4, 0)))")
        self.assertEqual(repr(Line(-3, -10)), "Line(-3, -10, ())")
        self.assertEqual(eval(repr(ZIGZAG)), ZIGZAG)


class TestThrough(ErrorCase):

    def test_through(self):
        self.same(Line.through((0, 4)), Line(0, 4))
        self.same(Line.through((0, 4), (2, 0)), Line(0, 4, [(2, -2)]))
        self.same(Line.through((-5, 4), (-3, 4), (0, -5), (1, 0)), Line(-5, 4, [(2, 0), (3, -3), (1, 5)]))
        self.same(Line.through((-FAR, FAR), (FAR, -FAR)), Line(-FAR, FAR, [(2 * FAR, -1)]))

    def test_legs_of_equal_speed_are_one(self):
        self.same(Line.through((0, 0), (1, 2), (2, 4), (5, 10), (6, 10), (8, 10), (9, 11)),
                  Line(0, 0, [(5, 2), (3, 0), (1, 1)]))
        self.same(Line.through(*[(tick, -3 * tick) for tick in range(2000)]), Line(0, 0, [(1999, -3)]))

    def test_corners_taken_back(self):
        random = Random(44)
        for _ in range(100):
            line = some_line(random)
            self.same(Line.through(*line.corners()), line)
            self.same(Line.through(*places_of(line).items()), line)

    def test_wrong_corners(self):
        self.fails(InvalidLegs(None), Line.through)
        for value in NO_PAIRS:
            for position in range(4):
                corners = [(0, 0), (1, 5), (3, 5), (4, 0)]
                corners[position] = value
                self.fails(InvalidLegs(position), Line.through, *corners)
                self.fails(InvalidLegs(position), Line.through, *corners[:position + 1])
        for corners, position in [
                ([(0, 0), (0, 0)], 1), ([(0, 0), (-1, 0)], 1), ([(0, 0), (2, 1)], 1), ([(0, 0), (2, -1)], 1),
                ([(0, 0), (1, 1), (4, 3)], 2), ([(0, 0), (1, 1), (1, 1), None], 2), ([(0, 0), (3, 1), (3, 1)], 1),
                ([(0, 0), (1, 1), (3, 1), (6, -1)], 3), ([(0, 0), (FAR, FAR - 1)], 1), ([(0, 0), (FAR, 1)], 1)]:
            self.fails(InvalidLegs(position), Line.through, *corners)

    def test_too_many_legs(self):
        corners = [(0, 0), (1, 1), (2, 1), (3, 2), (4, 2)]
        self.fails(InvalidLegs(None), Line.through, *corners)
        self.same(Line.through(*corners[:4]).legs, ((1, 1), (1, 0), (1, 1)))
        self.fails(InvalidLegs(5), Line.through, *corners, (6, 3))
        self.fails(InvalidLegs(None), Line.through, *corners, (5, 2))


class TestStay(ErrorCase):

    def test_stay(self):
        self.same(Line.stay(3, 10), MOMENT)
        self.same(Line.stay(3, 10, ticks=0), MOMENT)
        self.same(Line.stay(3, -10, ticks=1), Line(3, -10, [(1, 0)]))
        self.same(Line.stay(-FAR, FAR, ticks=FAR), Line(-FAR, FAR, [(FAR, 0)]))
        self.same(LINE.stay(0, 0, ticks=2), Line(0, 0, [(2, 0)]))

    def test_wrong(self):
        for value in NO_INTEGERS:
            self.fails(InvalidNumber(value), Line.stay, value, 0)
            self.fails(InvalidNumber(value), Line.stay, 0, value)
        for value in NO_COUNTS:
            self.fails(InvalidNumber(value), Line.stay, 0, 0, ticks=value)
        self.fails(InvalidNumber("t"), Line.stay, "t", "p", ticks=-1)
        self.fails(InvalidNumber("p"), Line.stay, 0, "p", ticks=-1)


class TestAdd(ErrorCase):

    def test_one_behind_the_other(self):
        self.same(Line(0, 0, [(2, 3)]) + Line(2, 6, [(1, -1)]), Line(0, 0, [(2, 3), (1, -1)]))
        self.same(Line(0, 0, [(2, 3)]) + Line(2, 6, [(1, 3)]), Line(0, 0, [(3, 3)]))
        self.same(MOMENT + MOMENT, MOMENT)
        self.same(LINE + Line(10, 25), LINE)
        self.same(Line(3, 10) + LINE, LINE)
        self.same(LINE + Line(10, 25, [(5, 0), (2, 7)]), Line(3, 10, [(3, 5), (9, 0), (2, 7)]))

    def test_step_by_step(self):
        random = Random(45)
        for _ in range(200):
            legs, more = some_legs(random, random.randint(0, 2)), some_legs(random, random.randint(0, 1))
            line = Line(random.randint(-9, 9), random.randint(-9, 9), legs)
            tick, place = line.corners()[-1]
            both = line + Line(tick, place, more)
            self.same(places_of(both), walked(line.first, line.place, legs + more))

    def test_all_legs_up_to_three(self):
        three = Line(0, 0, [(1, 1), (1, 2), (1, 3)])
        self.same(three + Line(3, 6, [(1, 3)]), Line(0, 0, [(1, 1), (1, 2), (2, 3)]))
        self.fails(InvalidLegs(None), lambda: three + Line(3, 6, [(1, 4)]))
        self.fails(InvalidLegs(None), lambda: three + Line(3, 6, [(1, 3), (1, 4)]))
        self.fails(InvalidLegs(None), lambda: three + Line(3, 6, [(1, 3), (1, 4), (1, 5)]))

    def test_other_values(self):
        for value in NO_INTEGERS + [0, 3, (10, 25), [(10, 25)], "Line(10, 25, ())", Line(10, 24), Line(9, 25),
                                    Line(11, 25), Line(3, 10), LINE, Line(10, -25), Line(9, 25, [(1, 0)])]:
            self.fails(InvalidLine(value), lambda: LINE + value)
        self.fails(InvalidLine(Line(0, 0)), lambda: Line(0, 0, [(1, 1), (1, 2), (1, 3)]) + Line(0, 0))

    def test_the_lines_themselves_do_not_change(self):
        before = repr(LINE)
        for make in (lambda: LINE + Line(10, 25, [(1, 4)]), LINE.mirrored, LINE.backward, lambda: LINE.later(5),
                     lambda: LINE.moved(3), lambda: LINE.scaled(parts=2)):
            self.same(make(), make())
            self.assertEqual(repr(LINE), before)


class TestMade(ErrorCase):

    def test_made(self):
        self.same(LINE.later(4), Line(7, 10, [(3, 5), (4, 0)]))
        self.same(LINE.later(-FAR), Line(3 - FAR, 10, [(3, 5), (4, 0)]))
        self.same(LINE.moved(-11), Line(3, -1, [(3, 5), (4, 0)]))
        self.same(LINE.mirrored(), Line(3, -10, [(3, -5), (4, 0)]))
        self.same(LINE.backward(), Line(-10, 25, [(4, 0), (3, -5)]))
        self.same(LINE.scaled(parts=3), Line(3, 30, [(3, 15), (4, 0)]))
        self.same([LINE.scaled(), LINE.later(0), LINE.moved(0)], [LINE] * 3)
        self.same([MOMENT.mirrored(), MOMENT.backward()], [Line(3, -10), Line(-3, 10)])
        self.same(LINE.scaled(parts=FAR).highest, 25 * FAR)

    def test_step_by_step(self):
        random = Random(46)
        for _ in range(100):
            line = some_line(random)
            places = places_of(line)
            self.same(places_of(line.later(5)), {tick + 5: place for tick, place in places.items()})
            self.same(places_of(line.moved(5)), {tick: place + 5 for tick, place in places.items()})
            self.same(places_of(line.mirrored()), {tick: -place for tick, place in places.items()})
            self.assertEqual(places_of(line.backward()), {-tick: place for tick, place in places.items()})
            self.same(places_of(line.scaled(parts=5)), {tick: place * 5 for tick, place in places.items()})

    def test_one_behind_the_other_and_taken_back(self):
        random = Random(47)
        for line in [LINE, MOMENT, ZIGZAG] + [some_line(random) for _ in range(50)]:
            self.same(line.mirrored().mirrored(), line)
            self.same(line.backward().backward(), line)
            self.same(line.later(9).later(-9), line)
            self.same(line.moved(9).moved(-9), line)
            self.same(line.later(2).later(3), line.later(5))
            self.same(line.scaled(parts=2).scaled(parts=3), line.scaled(parts=6))
            self.same(line.later(4).backward(), line.backward().later(-4))
            self.same(line.moved(4).mirrored(), line.mirrored().moved(-4))
            self.same(line.mirrored().backward(), line.backward().mirrored())
            self.same(line.moved(2).scaled(parts=3), line.scaled(parts=3).moved(6))


class TestWrong(ErrorCase):

    def test_tick_and_place(self):
        for value in NO_INTEGERS:
            self.fails(InvalidNumber(value), Line, value, 0)
            self.fails(InvalidNumber(value), Line, 0, value)

    def test_legs(self):
        for value in NO_LISTS + [[(1, 1)] * 4, [(1, 1), (2, 2), (3, 3), (4, 4)], [1, 2, 3, 4]]:
            self.fails(InvalidLegs(None), Line, 0, 0, value)
        for value in NO_PAIRS + [(0, 1), (-1, 1), (-FAR, 0)]:
            for position in range(3):
                legs = [(1, 0), (2, -6), (3, 7)]
                legs[position] = value
                self.fails(InvalidLegs(position), Line, 0, 0, legs)
                self.fails(InvalidLegs(position), Line, 0, 0, tuple(legs[:position + 1]))
        self.fails(InvalidLegs(1), Line, 0, 0, [(1, 1), (0, 1), None])

    def test_the_first_wrong_parameter_decides(self):
        self.fails(InvalidNumber(None), Line, None, True, 7)
        self.fails(InvalidNumber(True), Line, 0, True, 7)
        self.fails(InvalidNumber(None), Line, None, 0, 7)

    def test_at(self):
        for value in NO_INTEGERS + [2, 11, FAR, -FAR, "3", (3,)]:
            self.fails(NoTick(value), LINE.at, value)
        self.fails(NoTick(2), MOMENT.at, 2)
        self.fails(NoTick(True), Line(0, 0, [(5, 1)]).at, True)

    def test_what_is_made(self):
        for value in NO_INTEGERS:
            self.fails(InvalidNumber(value), LINE.later, value)
            self.fails(InvalidNumber(value), LINE.moved, value)
        for value in NO_POSITIVES:
            self.fails(InvalidNumber(value), LINE.scaled, parts=value)


if __name__ == "__main__":
    unittest.main()
