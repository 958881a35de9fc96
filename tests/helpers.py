"""What the tests share: wrong values, a check of errors, and beams to try."""

import itertools
import unittest

from beamheads.beams import Beam
from beamheads.heads import Head

FAR = 10 ** 39


class Anything:
    """A value that says of itself that it is equal to each other one."""

    def __eq__(self, other):
        return True

    def __hash__(self):
        return hash("a")


ANYTHING = Anything()

NO_INTEGERS = [True, False, None, "", "1", b"1", [], [1], (), (1,), {}, {1: 1}, {1}, object(), int, len,
               ANYTHING]
NO_COUNTS = NO_INTEGERS + [-1, -FAR]
NO_POSITIVES = NO_COUNTS + [0]
NO_NAMES = ["", "abcdefghi", "A", "aB", "a b", "a1", "1", "a_", "a\n", " a", "a ", "\u00e9", "`", "{", "a{", "`a",
            0, 1, True, False, None, b"a", [], ["a"], (), ("a",), {}, {"a": 1}, {"a"}, object(), str,
            ANYTHING]
NAMES = ["a", "z", "az", "abcdefgh", "zzzzzzzz"]
NO_LISTS = [None, True, False, 0, 1, "", "ab", b"ab", {}, {"ab": 1}, set(), {"ab"}, object(), list]


class ErrorCase(unittest.TestCase):

    def fails(self, error, call, *args, **kwargs):
        """The call raises just such an error, and changes nothing that it was passed."""
        before = repr((args, kwargs))
        with self.assertRaises(type(error)) as caught:
            call(*args, **kwargs)
        self.assertIs(type(caught.exception), type(error))
        self.assertEqual(repr(vars(caught.exception)), repr(vars(error)))
        self.assertEqual(repr((args, kwargs)), before)

    def refuses(self, whole, *names):
        """None of these properties of the object can be assigned, and the object stays as it was."""
        before = repr(whole)
        for name in names:
            for value in (None, 1, "a", (), getattr(whole, name)):
                self.assertRaises(AttributeError, setattr, whole, name, value)
        self.assertEqual(repr(whole), before)

    def same(self, found, wanted):
        """Equal, and of the same kinds of values (True is not 1, and a list is no tuple)."""
        self.assertEqual(found, wanted)
        self.assertEqual(repr(found), repr(wanted))


def small_head(name="a", left=1, right=1, kinds=("cut",), speed=1, changes=()):
    return Head(name, left, right, kinds, speed, changes)


def small_beam(many, room, speeds=None, reaches=None):
    """A beam of so many heads with just this room, that begins at place -3."""
    speeds = speeds or [(1, ())] * many
    reaches = reaches or [(1, 1)] * many
    heads = [Head("abcde"[k], *reaches[k], ["cut"], speeds[k][0], speeds[k][1]) for k in range(many)]
    return Beam(-3, -3 + room + sum(sum(reach) for reach in reaches), *heads)


def some_speeds(random, fastest=3, first=-4, last=4):
    """A first speed and some changes between two ticks."""
    ticks = sorted(random.sample(range(first, last + 1), random.randint(0, 3)))
    return random.randint(0, fastest), [(tick, random.randint(0, fastest)) for tick in ticks]


def some_beam(random, many=None, most_room=5, fastest=3):
    many = many or random.randint(1, 5)
    speeds = [some_speeds(random, fastest) for _ in range(many)]
    reaches = [(random.randint(1, 3), random.randint(1, 3)) for _ in range(many)]
    return small_beam(many, random.randint(0, most_room), speeds, reaches)


def right_places(beam):
    """All right places of a beam, straight from the words of the document."""
    reaches = [(head.left, head.right) for head in beam.heads]
    ranges = []
    for k, (left, right) in enumerate(reaches):
        least = beam.left + sum(sum(reach) for reach in reaches[:k]) + left
        greatest = beam.right - sum(sum(reach) for reach in reaches[k + 1:]) - right
        ranges.append(range(least, greatest + 1))
    found = []
    for places in itertools.product(*ranges):
        gaps = [places[k + 1] - places[k] - reaches[k][1] - reaches[k + 1][0] for k in range(len(places) - 1)]
        if all(gap >= 0 for gap in gaps):
            found.append(places)
    return found


def stretched(beam, ticks, places):
    """The beam with all ticks and places multiplied (places by a multiple of ticks; speeds follow)."""
    heads = [Head(head.name, head.left * places, head.right * places, head.kinds, head.speed * places // ticks,
                  [(tick * ticks, speed * places // ticks) for tick, speed in head.changes]) for head in beam.heads]
    return Beam(beam.left * places, beam.right * places, *heads)
