import itertools
import unittest
from random import Random

from beamheads.beams import Beam
from beamheads.errors import (
    BeamTooShort, InvalidHead, InvalidHeads, InvalidNumber, UnknownHead, UnknownNumber,
)
from beamheads.heads import Head
from tests.helpers import (
    FAR, NO_COUNTS, NO_INTEGERS, NO_NAMES, NO_POSITIVES, ErrorCase, right_places, small_head, some_beam,
)

A = Head("a", 1, 2, ["cut"], 2, [(5, 0)])
B = Head("b", 3, 4, ["cut", "saw"], 1)
C = Head("c", 5, 6, ["saw"], 0, [(-2, 7), (3, 1)])
BEAM = Beam(-10, 20, A, B, C)
LONE = Beam(0, 3, Head("z", 1, 2, ["cut"], 5))
FIVE = Beam(0, 10, *[small_head(name) for name in "edcba"])


class TestParts(ErrorCase):

    def test_properties(self):
        self.same([BEAM.left, BEAM.right, BEAM.room, BEAM.heads, len(BEAM)], [-10, 20, 9, (A, B, C), 3])
        self.same([LONE.left, LONE.right, LONE.room, LONE.heads, len(LONE)], [0, 3, 0, LONE.heads, 1])
        self.same([FIVE.room, len(FIVE), [head.name for head in FIVE.heads]], [0, 5, ["e", "d", "c", "b", "a"]])
        self.same([Beam.MOST_HEADS, BEAM.MOST_HEADS], [5, 5])

    def test_properties_cannot_be_assigned(self):
        self.refuses(BEAM, "left", "right", "room", "heads")

    def test_names(self):
        self.same(["a" in BEAM, "b" in BEAM, "c" in BEAM, "d" in BEAM], [True, True, True, False])
        for value in NO_NAMES + [A, "cut", "ab"]:
            self.same(value in BEAM, False)

    def test_head_and_number_of(self):
        for number, head in enumerate((A, B, C), 1):
            self.same(BEAM.head(number), head)
            self.same(BEAM.number_of(head.name), number)
        self.same([FIVE.number_of(name) for name in "abcde"], [5, 4, 3, 2, 1])

    def test_distance_of_all_pairs(self):
        wanted = {(1, 1): 0, (1, 2): 5, (1, 3): 14, (2, 2): 0, (2, 3): 9, (3, 3): 0}
        for (i, j), distance in wanted.items():
            self.same(BEAM.distance(i, j), distance)
        for i in range(1, 6):
            for j in range(i, 6):
                self.same(FIVE.distance(i, j), 2 * (j - i))

    def test_ranges(self):
        self.same([BEAM.range_of(number) for number in (1, 2, 3)], [(-9, 0), (-4, 5), (5, 14)])
        self.same(LONE.range_of(1), (1, 1))
        self.same([FIVE.range_of(number) for number in range(1, 6)], [(1, 1), (3, 3), (5, 5), (7, 7), (9, 9)])

    def test_speed_at(self):
        self.same([BEAM.speed_at(1, 4), BEAM.speed_at(1, 5), BEAM.speed_at(2, -FAR), BEAM.speed_at(3, -3),
                   BEAM.speed_at(3, -2), BEAM.speed_at(3, FAR)], [2, 0, 1, 0, 7, 1])

    def test_packed(self):
        self.same(BEAM.packed(), (-9, -4, 5))
        self.same(BEAM.packed(to_right=False), (-9, -4, 5))
        self.same(BEAM.packed(to_right=True), (0, 5, 14))
        self.same([FIVE.packed(), FIVE.packed(to_right=True)], [(1, 3, 5, 7, 9), (1, 3, 5, 7, 9)])
        self.same([LONE.packed(), LONE.packed(to_right=True)], [(1,), (1,)])

    def test_far_ends(self):
        beam = Beam(-FAR, FAR, Head("a", 10 ** 20, 1, ["cut"], FAR), small_head("b"))
        self.same(beam.room, 2 * FAR - 10 ** 20 - 3)
        self.same([beam.range_of(1), beam.range_of(2)],
                  [(10 ** 20 - FAR, FAR - 3), (10 ** 20 - FAR + 2, FAR - 1)])
        self.same(beam.are_right((FAR - 3, FAR - 1)), True)
        self.same(beam.are_right((FAR - 3, FAR)), False)

    def test_the_heads_are_copied(self):
        heads = [A, B]
        beam = Beam(0, 30, *heads)
        heads.append(C)
        self.same(beam.heads, (A, B))

    def test_arguments_by_name(self):
        self.same(BEAM.head(number=2), B)
        self.same(BEAM.number_of(name="c"), 3)
        self.same(BEAM.distance(j=3, i=1), 14)
        self.same(BEAM.range_of(number=2), (-4, 5))
        self.same(BEAM.are_right(places=(-9, -4, 5)), True)
        self.same(BEAM.speed_at(step=5, number=1), 0)
        self.same(BEAM.with_head(head=A), BEAM)
        self.same(BEAM.later(ticks=1), BEAM.later(1))
        self.same(BEAM.moved(places=1), BEAM.moved(1))
        self.same(BEAM.wider(more=1), BEAM.wider(1))
        self.same(BEAM.scaled(speed=3, parts=2), BEAM.scaled(parts=2, speed=3))


class TestRight(ErrorCase):

    def test_right(self):
        for places in [(-9, -4, 5), (0, 5, 14), (-9, 5, 14), (-9, -4, 14), (-5, 0, 9), (-9, 0, 9)]:
            self.same(BEAM.are_right(places), True)

    def test_wrong_places(self):
        for places in [(-10, -4, 5), (-9, -5, 5), (-9, -4, 4), (1, 5, 14), (0, 6, 14), (0, 5, 15), (-5, -1, 9),
                       (-5, 0, 8), (0, 5, 13), (FAR, FAR, FAR), (5, -4, -9)]:
            self.same(BEAM.are_right(places), False)

    def test_other_values(self):
        for value in NO_INTEGERS + [1, (), (-9,), (-9, -4), (-9, -4, 5, 14), [-9, -4, 5], "abc", (-9, -4, "5"),
                                    (None, -4, 5), ((-9,), -4, 5), ((-9, -4, 5),), {-9: 1, -4: 1, 5: 1}]:
            self.same(BEAM.are_right(value), False)
        lone = Beam(0, 5, small_head())
        self.same([lone.are_right((1,)), lone.are_right((True,)), lone.are_right((False,)), lone.are_right(1)],
                  [True, False, False, False])
        pair = Beam(-2, 4, small_head("a"), small_head("b"))
        self.same([pair.are_right((-1, 1)), pair.are_right((-1, True)), pair.are_right((0, 2)),
                   pair.are_right((False, 2))], [True, False, True, False])

    def test_all_places_of_small_beams(self):
        random = Random(12)
        for _ in range(60):
            beam = some_beam(random, many=random.randint(1, 3), most_room=3)
            right = right_places(beam)
            for places in itertools.product(range(beam.left, beam.right + 1), repeat=len(beam)):
                self.assertIs(beam.are_right(places), places in right)
            self.same([min(row) for row in zip(*right)], list(beam.packed()))
            self.same([max(row) for row in zip(*right)], list(beam.packed(to_right=True)))
            self.same(list(zip(beam.packed(), beam.packed(to_right=True))),
                      [beam.range_of(number) for number in range(1, len(beam) + 1)])


class TestEquality(ErrorCase):

    def test_equal(self):
        self.assertEqual(BEAM, Beam(-10, 20, Head("a", 1, 2, ("cut",), 2, [(5, 0), (6, 0)]), B, C))
        self.assertFalse(BEAM != Beam(-10, 20, A, B, C))

    def test_each_part_counts(self):
        for other in [Beam(-11, 20, A, B, C), Beam(-10, 21, A, B, C), Beam(-10, 20, A, C, B), Beam(-10, 20, A, B),
                      Beam(-10, 20, A, B, C.wider(1)), BEAM.moved(1)]:
            self.assertTrue(BEAM != other)
            self.assertFalse(BEAM == other)

    def test_other_values(self):
        for value in [None, 1, "a", repr(BEAM), (-10, 20, A, B, C), [BEAM], A, Beam]:
            self.assertFalse(BEAM == value)
            self.assertTrue(BEAM != value)

    def test_repr(self):
        self.assertEqual(repr(Beam(0, 20, Head("a", 1, 1, ["cut"], 2), Head("b", 1, 1, ["x", "w"], 1, [(3, 4)]))),
                         "Beam(0, 20, Head('a', 1, 1, ('cut',), 2, ()), Head('b', 1, 1, ('w', 'x'), 1, ((3, 4),)))")
        self.assertEqual(repr(LONE), "Beam(0, 3, Head('z', 1, 2, ('cut',), 5, ()))")
        self.assertEqual(eval(repr(BEAM)), BEAM)


class TestMade(ErrorCase):

    def test_with_head(self):
        other = Head("b", 1, 1, ["x"], 9)
        self.same(BEAM.with_head(other), Beam(-10, 20, A, other, C))
        self.same(BEAM.with_head(Head("a", 10, 2, ["x"], 9)).room, 0)
        self.same(BEAM.with_head(Head("c", 5, 15, ["x"], 9)).room, 0)
        self.same(BEAM.with_head(A), BEAM)

    def test_mirrored(self):
        self.same(BEAM.mirrored(), Beam(-20, 10, Head("c", 6, 5, ["saw"], 0, [(-2, 7), (3, 1)]),
                                        Head("b", 4, 3, ["cut", "saw"], 1), Head("a", 2, 1, ["cut"], 2, [(5, 0)])))
        self.same(BEAM.mirrored().packed(), tuple(-place for place in BEAM.packed(to_right=True)[::-1]))

    def test_backward(self):
        self.same(BEAM.backward(), Beam(-10, 20, A.backward(), B, C.backward()))
        self.same(BEAM.backward().heads[2], Head("c", 5, 6, ["saw"], 1, [(-3, 7), (2, 0)]))

    def test_later(self):
        self.same(BEAM.later(3), Beam(-10, 20, Head("a", 1, 2, ["cut"], 2, [(8, 0)]), B,
                                      Head("c", 5, 6, ["saw"], 0, [(1, 7), (6, 1)])))
        self.same(BEAM.later(-FAR).heads[0].changes, ((5 - FAR, 0),))

    def test_moved(self):
        self.same(BEAM.moved(3), Beam(-7, 23, A, B, C))
        self.same(BEAM.moved(-FAR), Beam(-10 - FAR, 20 - FAR, A, B, C))

    def test_wider(self):
        self.same(BEAM.wider(3), Beam(-10, 20, A.wider(3), B.wider(3), C.wider(3)))
        self.same([BEAM.wider(3).room, BEAM.wider(0)], [0, BEAM])

    def test_scaled(self):
        self.same(BEAM.scaled(), BEAM)
        self.same(BEAM.scaled(parts=2, speed=3), Beam(-20, 40, *[head.scaled(parts=2, speed=3) for head in (A, B, C)]))
        self.same(BEAM.scaled(parts=FAR).room, 9 * FAR)
        self.same(BEAM.scaled(speed=0).heads[2], Head("c", 5, 6, ["saw"], 0))

    def test_twice_and_taken_back(self):
        for beam in (BEAM, LONE, FIVE):
            self.same(beam.mirrored().mirrored(), beam)
            self.same(beam.backward().backward(), beam)
            self.same(beam.later(7).later(-7), beam)
            self.same(beam.moved(7).moved(-7), beam)
            self.same(beam.moved(7).mirrored(), beam.mirrored().moved(-7))
            self.same(beam.wider(0).wider(0), beam)
            self.same(beam.scaled(parts=2, speed=3).scaled(parts=5, speed=7), beam.scaled(parts=10, speed=21))
        self.same(BEAM.wider(1).wider(2), BEAM.wider(3))

    def test_the_beam_itself_does_not_change(self):
        before = repr(BEAM)
        for make in (lambda: BEAM.with_head(B), BEAM.mirrored, BEAM.backward, lambda: BEAM.later(5),
                     lambda: BEAM.moved(5), lambda: BEAM.wider(3), lambda: BEAM.scaled(parts=2, speed=2)):
            self.same(make(), make())
            self.assertEqual(repr(BEAM), before)


class TestWrong(ErrorCase):

    def test_ends(self):
        for value in NO_INTEGERS:
            self.fails(InvalidNumber(value), Beam, value, 20, A)
            self.fails(InvalidNumber(value), Beam, 0, value, A)
        for left, right in [(0, 0), (0, -1), (5, 5), (5, 4), (-3, -3), (FAR, FAR - 1), (FAR, -FAR)]:
            self.fails(InvalidNumber(right), Beam, left, right, A)
        self.same(Beam(-3, 0, A).room, 0)

    def test_heads(self):
        self.fails(InvalidHeads(None), Beam, 0, 20)
        self.fails(InvalidHeads(None), Beam, 0, 99, *FIVE.heads, small_head("f"))
        self.fails(InvalidHeads(None), Beam, 0, 99, 1, 2, 3, 4, 5, 6)
        wrong = [None, 1, True, "a", repr(A), [A], (A,), Head, ("a", 1, 2, ["cut"], 2), BEAM, small_head("p"),
                 Head("p", 9, 9, ["saw"], 9)]
        for value in wrong:
            for position in range(5):
                heads = [small_head(name) for name in "pqrst"]
                heads[position] = value
                if not isinstance(value, Head):
                    self.fails(InvalidHeads(position), Beam, 0, 99, *heads)
                    self.fails(InvalidHeads(position), Beam, 0, 99, *heads[:position + 1])
                elif position:
                    self.fails(InvalidHeads(position), Beam, 0, 99, *heads)
        self.fails(InvalidHeads(1), Beam, 0, 99, A, A, 7)
        self.fails(InvalidHeads(1), Beam, 0, 99, A, 7, A)

    def test_room(self):
        for right, missing in [(20, 1), (19, 2), (1, 20)]:
            self.fails(BeamTooShort(missing), Beam, 0, right, A, B, C)
        self.same(Beam(0, 21, A, B, C).room, 0)
        self.fails(BeamTooShort(FAR + 1 - 10), Beam, 0, 10, Head("a", 1, FAR, ["cut"], 1))

    def test_the_first_wrong_parameter_decides(self):
        self.fails(InvalidNumber(True), Beam, True, "x", 7)
        self.fails(InvalidNumber("x"), Beam, 0, "x")
        self.fails(InvalidNumber(0), Beam, 0, 0, 7)
        self.fails(InvalidHeads(2), Beam, 0, 2, A, B, A)

    def test_numbers(self):
        for value in NO_INTEGERS + [0, 4, -1, FAR, -FAR, "a"]:
            self.fails(UnknownNumber(value), BEAM.head, value)
            self.fails(UnknownNumber(value), BEAM.range_of, value)
            self.fails(UnknownNumber(value), BEAM.speed_at, value, 0)
            self.fails(UnknownNumber(value), BEAM.speed_at, value, None)
            self.fails(UnknownNumber(value), BEAM.distance, value, 3)
            self.fails(UnknownNumber(value), BEAM.distance, 1, value)
            self.fails(UnknownNumber(value), BEAM.distance, value, None)
        for i, j in [(2, 1), (3, 1), (3, 2)]:
            self.fails(UnknownNumber(j), BEAM.distance, i, j)
        for value in NO_INTEGERS:
            self.fails(InvalidNumber(value), BEAM.speed_at, 3, value)

    def test_names(self):
        for value in NO_NAMES + ["d", "cut", 1, A]:
            self.fails(UnknownHead(value), BEAM.number_of, value)

    def test_with_head(self):
        for value in [None, 1, True, "a", [A], (A,), Head, BEAM]:
            self.fails(InvalidHead(value), BEAM.with_head, value)
        self.fails(UnknownHead("d"), BEAM.with_head, small_head("d"))
        self.fails(UnknownHead("d"), BEAM.with_head, small_head("d", 99, 99))
        self.fails(BeamTooShort(1), BEAM.with_head, small_head("a", 1, 12))
        self.fails(BeamTooShort(188), BEAM.with_head, small_head("b", 99, 105))

    def test_what_is_made(self):
        for value in NO_INTEGERS:
            self.fails(InvalidNumber(value), BEAM.later, value)
            self.fails(InvalidNumber(value), BEAM.moved, value)
        for value in NO_COUNTS:
            self.fails(InvalidNumber(value), BEAM.wider, value)
            self.fails(InvalidNumber(value), BEAM.scaled, speed=value)
        for value in NO_POSITIVES:
            self.fails(InvalidNumber(value), BEAM.scaled, parts=value)
            self.fails(InvalidNumber(value), BEAM.scaled, speed=-7, parts=value)
        self.fails(BeamTooShort(3), BEAM.wider, 4)
        self.fails(BeamTooShort(3 * FAR - 9), BEAM.wider, FAR)
        self.fails(BeamTooShort(1), LONE.wider, 1)


if __name__ == "__main__":
    unittest.main()
