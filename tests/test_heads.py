import unittest

from beamheads.errors import InvalidChanges, InvalidKinds, InvalidName, InvalidNumber
from beamheads.heads import Head
from tests.helpers import (
    FAR, NAMES, NO_COUNTS, NO_INTEGERS, NO_LISTS, NO_NAMES, NO_POSITIVES, ErrorCase, small_head,
)

HEAD = Head("a", 1, 2, ["saw", "cut"], 3, [(5, 0), (7, 0), (9, 3)])
CHANGED = [(-4, 2), (0, 7), (6, 0)]


class TestParts(ErrorCase):

    def test_properties(self):
        self.same([HEAD.name, HEAD.left, HEAD.right, HEAD.kinds, HEAD.speed, HEAD.changes],
                  ["a", 1, 2, ("cut", "saw"), 3, ((5, 0), (9, 3))])
        plain = Head("b", 1, 1, ("cut",), 0)
        self.same([plain.name, plain.left, plain.right, plain.kinds, plain.speed, plain.changes],
                  ["b", 1, 1, ("cut",), 0, ()])

    def test_properties_cannot_be_assigned(self):
        self.refuses(HEAD, "name", "left", "right", "kinds", "speed", "changes")

    def test_bounds_that_are_within(self):
        for name in NAMES:
            self.same(Head(name, 1, FAR, [name], 0).name, name)
        head = Head("a", FAR, FAR, ["d", "c", "b", "a"], FAR, [(-FAR, 0), (0, FAR), (FAR, 0)])
        self.same(head.kinds, ("a", "b", "c", "d"))
        self.same(head.changes, ((-FAR, 0), (0, FAR), (FAR, 0)))
        self.same([Head.MOST_KINDS, Head.MOST_CHANGES, head.MOST_KINDS], [4, 3, 4])

    def test_changes_to_the_same_speed_are_left_out(self):
        for changes, left in [
                ([(1, 2)], ()), ([(1, 3)], ((1, 3),)), ([(1, 2), (2, 2), (3, 2)], ()),
                ([(1, 3), (2, 3), (3, 3)], ((1, 3),)), ([(1, 2), (2, 4), (3, 2)], ((2, 4), (3, 2))),
                ([(1, 4), (2, 2), (3, 2)], ((1, 4), (2, 2))), ([(1, 0), (2, 2), (3, 0)], ((1, 0), (2, 2), (3, 0)))]:
            self.same(small_head(speed=2, changes=changes).changes, left)

    def test_arguments_by_name_in_another_sequence(self):
        self.assertEqual(Head(changes=[(5, 0), (9, 3)], speed=3, kinds=("cut", "saw"), right=2, left=1, name="a"), HEAD)
        self.same(HEAD.speed_at(step=5), 0)
        self.same(HEAD.does(kind="saw"), True)
        self.assertEqual(HEAD.with_speed(speed=4), Head("a", 1, 2, ["cut", "saw"], 4))
        self.assertEqual(HEAD.later(ticks=2), HEAD.later(2))
        self.assertEqual(HEAD.wider(more=2), HEAD.wider(2))
        self.assertEqual(HEAD.scaled(speed=5, parts=2), HEAD.scaled(parts=2, speed=5))

    def test_what_was_passed_is_copied(self):
        kinds, changes = ["saw", "cut"], [(5, 0)]
        head = Head("a", 1, 2, kinds, 3, changes)
        self.same([kinds, changes], [["saw", "cut"], [(5, 0)]])
        kinds.append("b")
        changes[0] = (6, 1)
        changes.append((8, 2))
        self.same([head.kinds, head.changes, head.speed_at(5)], [("cut", "saw"), ((5, 0),), 0])

    def test_speed_beside_each_change(self):
        head = small_head(speed=1, changes=CHANGED)
        wanted = {-5: 1, -4: 2, -3: 2, -1: 2, 0: 7, 1: 7, 5: 7, 6: 0, 7: 0, FAR: 0, 10 ** 20: 0, -10 ** 20: 1, -FAR: 1}
        for step, speed in wanted.items():
            self.same(head.speed_at(step), speed)

    def test_speed_beside_far_changes(self):
        head = small_head(speed=4, changes=[(-10 ** 30, 5), (10 ** 20, 6), (FAR, 8)])
        for step, speed in [(-FAR, 4), (-10 ** 30 - 1, 4), (-10 ** 30, 5), (0, 5), (10 ** 20 - 1, 5), (10 ** 20, 6),
                            (FAR - 1, 6), (FAR, 8), (FAR + 1, 8)]:
            self.same(head.speed_at(step), speed)
        self.same(small_head(speed=4).speed_at(-FAR), 4)

    def test_does(self):
        self.same([HEAD.does("cut"), HEAD.does("saw"), HEAD.does("a")], [True, True, False])
        for value in NO_NAMES + [("cut", "saw"), ["cut"], "cu", "cutsaw"]:
            self.same(HEAD.does(value), False)


class TestEquality(ErrorCase):

    def test_equal(self):
        self.assertEqual(HEAD, Head("a", 1, 2, ("cut", "saw"), 3, ((5, 0), (9, 3))))
        self.assertFalse(HEAD != Head("a", 1, 2, ("cut", "saw"), 3, ((5, 0), (9, 3))))

    def test_each_part_counts(self):
        parts = ["a", 1, 2, ["cut", "saw"], 3, [(5, 0), (9, 3)]]
        others = ["b", 2, 1, ["cut"], 4, [(5, 0)]]
        for at, other in enumerate(others):
            unlike = Head(*parts[:at], other, *parts[at + 1:])
            self.assertTrue(HEAD != unlike)
            self.assertFalse(HEAD == unlike)
        for changes in ([(5, 0), (9, 4)], [(5, 0), (10, 3)], []):
            self.assertNotEqual(HEAD, Head(*parts[:5], changes))

    def test_other_values(self):
        for value in [None, 1, "a", repr(HEAD), ("a", 1, 2, ("cut", "saw"), 3, ((5, 0), (9, 3))), [HEAD], Head]:
            self.assertFalse(HEAD == value)
            self.assertTrue(HEAD != value)

    def test_repr(self):
        self.assertEqual(repr(Head("a", 1, 2, ["cut"], 3, [(5, 0)])), "Head('a', 1, 2, ('cut',), 3, ((5, 0),))")
        self.assertEqual(repr(Head("b", 9, 1, ["z", "y"], 0)), "Head('b', 9, 1, ('y', 'z'), 0, ())")
        self.assertEqual(eval(repr(HEAD)), HEAD)


class TestMade(ErrorCase):

    def test_with_speed(self):
        self.same(HEAD.with_speed(0, (1, 2), (3, 4)), Head("a", 1, 2, ["cut", "saw"], 0, [(1, 2), (3, 4)]))
        self.same(HEAD.with_speed(7), Head("a", 1, 2, ["cut", "saw"], 7))
        self.same(HEAD.with_speed(7, (0, 7), (1, 8), (2, 8)).changes, ((1, 8),))

    def test_mirrored(self):
        self.same(HEAD.mirrored(), Head("a", 2, 1, ["cut", "saw"], 3, [(5, 0), (9, 3)]))

    def test_backward(self):
        self.same(HEAD.backward(), Head("a", 1, 2, ["cut", "saw"], 3, [(-9, 0), (-5, 3)]))
        self.same(small_head(speed=1, changes=CHANGED).backward(),
                  small_head(speed=0, changes=[(-6, 7), (0, 2), (4, 1)]))
        for changes in ([], [(-3, 0)], [(0, 5), (1, 0)], CHANGED):
            head = small_head(speed=1, changes=changes)
            for step in range(-9, 10):
                self.same(head.backward().speed_at(-step - 1), head.speed_at(step))

    def test_later(self):
        self.same(HEAD.later(4), Head("a", 1, 2, ["cut", "saw"], 3, [(9, 0), (13, 3)]))
        self.same(HEAD.later(-FAR).changes, ((5 - FAR, 0), (9 - FAR, 3)))
        self.same(HEAD.later(0), HEAD)

    def test_wider(self):
        self.same(HEAD.wider(5), Head("a", 1, 7, ["cut", "saw"], 3, [(5, 0), (9, 3)]))
        self.same(HEAD.wider(0), HEAD)
        self.same(HEAD.wider(FAR).right, FAR + 2)

    def test_scaled(self):
        self.same(HEAD.scaled(), HEAD)
        self.same(HEAD.scaled(parts=4), Head("a", 4, 8, ["cut", "saw"], 3, [(5, 0), (9, 3)]))
        self.same(HEAD.scaled(speed=4), Head("a", 1, 2, ["cut", "saw"], 12, [(5, 0), (9, 12)]))
        self.same(HEAD.scaled(parts=2, speed=FAR), Head("a", 2, 4, ["cut", "saw"], 3 * FAR, [(5, 0), (9, 3 * FAR)]))
        self.same(HEAD.scaled(speed=0), Head("a", 1, 2, ["cut", "saw"], 0))

    def test_twice_and_taken_back(self):
        for head in (HEAD, small_head(speed=1, changes=CHANGED), small_head(left=3, speed=2, changes=[(FAR, 0)])):
            self.same(head.mirrored().mirrored(), head)
            self.same(head.backward().backward(), head)
            self.same(head.later(7).later(-7), head)
            self.same(head.later(3).later(4), head.later(7))
            self.same(head.wider(3).wider(4), head.wider(7))
            self.same(head.scaled(parts=2, speed=3).scaled(parts=5, speed=7), head.scaled(parts=10, speed=21))
            self.same(head.later(5).backward(), head.backward().later(-5))

    def test_the_head_itself_does_not_change(self):
        for make in (lambda: HEAD.with_speed(9, (1, 1)), HEAD.mirrored, HEAD.backward, lambda: HEAD.later(5),
                     lambda: HEAD.wider(3), lambda: HEAD.scaled(parts=2, speed=2)):
            self.same(make(), make())
            self.assertEqual(repr(HEAD), "Head('a', 1, 2, ('cut', 'saw'), 3, ((5, 0), (9, 3)))")


class TestWrong(ErrorCase):

    def test_name(self):
        for value in NO_NAMES:
            self.fails(InvalidName(value), Head, value, 1, 1, ["cut"], 1)

    def test_reaches(self):
        for value in NO_POSITIVES:
            self.fails(InvalidNumber(value), Head, "a", value, 1, ["cut"], 1)
            self.fails(InvalidNumber(value), Head, "a", 1, value, ["cut"], 1)

    def test_kinds(self):
        for value in NO_LISTS + [[], (), ["a", "b", "c", "d", "e"], [1, 2, 3, 4, 5]]:
            self.fails(InvalidKinds(None), Head, "a", 1, 1, value, 1)
        for value in NO_NAMES:
            for position in range(4):
                kinds = ["p", "q", "r", "s"]
                kinds[position] = value
                self.fails(InvalidKinds(position), Head, "a", 1, 1, kinds, 1)
                self.fails(InvalidKinds(position), Head, "a", 1, 1, tuple(kinds[:position + 1]), 1)
        for kinds, position in [(["a", "a"], 1), (["a", "b", "a"], 2), (["a", "b", "c", "b"], 3),
                                (["a", "a", 1], 1), (["a", 1, "a"], 1), ([1, 1], 0)]:
            self.fails(InvalidKinds(position), Head, "a", 1, 1, kinds, 1)

    def test_speed(self):
        for value in NO_COUNTS:
            self.fails(InvalidNumber(value), Head, "a", 1, 1, ["cut"], value)
            self.fails(InvalidNumber(value), HEAD.with_speed, value)

    def test_changes(self):
        for value in NO_LISTS + [[(1, 1), (2, 2), (3, 3), (4, 4)], [1, 1, 1, 1]]:
            self.fails(InvalidChanges(None), Head, "a", 1, 1, ["cut"], 1, value)
        wrong = [1, None, True, "ab", [2, 1], (2,), (), (2, 1, 1), (True, 1), (2, True), (2, False), ("2", 1),
                 (2, "1"), (2, None), (None, 1), (2, -1), (2, -FAR), {2: 1}, ((2, 1),)]
        for value in wrong:
            for position in range(3):
                changes = [(0, 5), (1, 6), (3, 7)]
                changes[position] = value
                self.fails(InvalidChanges(position), Head, "a", 1, 1, ["cut"], 1, changes)
                self.fails(InvalidChanges(position), HEAD.with_speed, 1, *changes)
                self.fails(InvalidChanges(position), Head, "a", 1, 1, ["cut"], 1, tuple(changes[:position + 1]))
        for changes, position in [([(1, 2), (1, 3)], 1), ([(1, 2), (0, 3)], 1), ([(1, 2), (2, 3), (2, 4)], 2),
                                  ([(1, 2), (FAR, 3), (FAR, 3)], 2), ([(1, 2), (1, 3), 7], 1), ([(0, 0), (-1, 0)], 1)]:
            self.fails(InvalidChanges(position), Head, "a", 1, 1, ["cut"], 1, changes)
        self.fails(InvalidChanges(None), HEAD.with_speed, 1, (1, 1), (2, 2), (3, 3), (4, 4))

    def test_the_first_wrong_parameter_decides(self):
        right = ["a", 1, 1, ["cut"], 1, []]
        wrong = ["A", 0, -1, [], -2, [5]]
        errors = [InvalidName("A"), InvalidNumber(0), InvalidNumber(-1), InvalidKinds(None), InvalidNumber(-2),
                  InvalidChanges(0)]
        for first in range(6):
            for second in range(first, 6):
                parts = [wrong[at] if at in (first, second) else right[at] for at in range(6)]
                self.fails(errors[first], Head, *parts)
        self.fails(InvalidNumber(-2), HEAD.with_speed, -2, 5)

    def test_methods(self):
        before = repr(HEAD)
        for value in NO_INTEGERS:
            self.fails(InvalidNumber(value), HEAD.speed_at, value)
            self.fails(InvalidNumber(value), HEAD.later, value)
        for value in NO_COUNTS:
            self.fails(InvalidNumber(value), HEAD.wider, value)
            self.fails(InvalidNumber(value), HEAD.scaled, speed=value)
        for value in NO_POSITIVES:
            self.fails(InvalidNumber(value), HEAD.scaled, parts=value)
            self.fails(InvalidNumber(value), HEAD.scaled, speed=-5, parts=value)
        self.assertEqual(repr(HEAD), before)


if __name__ == "__main__":
    unittest.main()
