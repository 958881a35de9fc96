import unittest

from beamheads.errors import InvalidLine, InvalidName, InvalidNumber
from beamheads.jobs import Job
from beamheads.lines import Line
from tests.helpers import FAR, NAMES, NO_INTEGERS, NO_NAMES, NO_POSITIVES, ErrorCase

LINE = Line(3, 10, [(3, 5), (4, 0)])
JOB = Job("x", "cut", LINE)
NO_LINES = [None, True, False, 0, 3, "", "x", repr(LINE), (3, 10), [(3, 10)], LINE.corners(), {}, {3: 10}, Line, JOB]


class TestParts(ErrorCase):

    def test_properties(self):
        self.same([JOB.name, JOB.kind, JOB.line], ["x", "cut", LINE])
        for name in NAMES:
            self.same([Job(name, "a", LINE).name, Job("a", name, LINE).kind], [name, name])

    def test_properties_cannot_be_assigned(self):
        self.refuses(JOB, "name", "kind", "line")

    def test_arguments_by_name(self):
        self.same(Job(line=LINE, kind="cut", name="x"), JOB)
        self.same([JOB.on(line=LINE), JOB.later(ticks=2), JOB.moved(places=2)], [JOB, JOB.later(2), JOB.moved(2)])

    def test_equality(self):
        self.assertEqual(JOB, Job("x", "cut", Line(3, 10, [(1, 5), (2, 5), (4, 0)])))
        self.assertFalse(JOB != Job("x", "cut", Line(3, 10, [(1, 5), (2, 5), (4, 0)])))
        for other in [Job("y", "cut", LINE), Job("x", "saw", LINE), Job("x", "cut", LINE.later(1)), Job("cut", "x", LINE),
                      None, "x", repr(JOB), ("x", "cut", LINE), [JOB], LINE, Job]:
            self.assertTrue(JOB != other)
            self.assertFalse(JOB == other)

    def test_repr(self):
        self.assertEqual(repr(Job("x", "cut", Line(3, 10))), "Job('x', 'cut', Line(3, 10, ()))")
        self.assertEqual(repr(JOB), "Job('x', 'cut', Line(3, 10, ((3, 5), (4, 0))))")
        self.assertEqual(eval(repr(JOB)), JOB)


class TestMade(ErrorCase):

    def test_made(self):
        self.same(JOB.on(Line(0, 0)), Job("x", "cut", Line(0, 0)))
        self.same(JOB.later(-FAR), Job("x", "cut", Line(3 - FAR, 10, LINE.legs)))
        self.same(JOB.moved(4), Job("x", "cut", Line(3, 14, LINE.legs)))
        self.same(JOB.mirrored(), Job("x", "cut", Line(3, -10, [(3, -5), (4, 0)])))
        self.same(JOB.backward(), Job("x", "cut", Line(-10, 25, [(4, 0), (3, -5)])))
        self.same(JOB.scaled(parts=2), Job("x", "cut", Line(3, 20, [(3, 10), (4, 0)])))
        self.same(JOB.scaled(), JOB)

    def test_taken_back(self):
        self.same(JOB.mirrored().mirrored(), JOB)
        self.same(JOB.backward().backward(), JOB)
        self.same(JOB.later(5).later(-5), JOB)
        self.same(JOB.moved(5).moved(-5), JOB)
        self.same(JOB.scaled(parts=2).scaled(parts=3), JOB.scaled(parts=6))

    def test_the_job_itself_does_not_change(self):
        before = repr(JOB)
        for make in (lambda: JOB.on(Line(0, 0)), JOB.mirrored, JOB.backward, lambda: JOB.later(5),
                     lambda: JOB.moved(3), lambda: JOB.scaled(parts=2)):
            self.same(make(), make())
            self.assertEqual(repr(JOB), before)


class TestWrong(ErrorCase):

    def test_parts(self):
        for value in NO_NAMES:
            self.fails(InvalidName(value), Job, value, "cut", LINE)
            self.fails(InvalidName(value), Job, "x", value, LINE)
        for value in NO_LINES:
            self.fails(InvalidLine(value), Job, "x", "cut", value)
            self.fails(InvalidLine(value), JOB.on, value)

    def test_the_first_wrong_parameter_decides(self):
        right, wrong = ["x", "cut", LINE], ["X", 5, None]
        errors = [InvalidName("X"), InvalidName(5), InvalidLine(None)]
        for first in range(3):
            for second in range(first, 3):
                parts = [wrong[at] if at in (first, second) else right[at] for at in range(3)]
                self.fails(errors[first], Job, *parts)

    def test_methods(self):
        for value in NO_INTEGERS:
            self.fails(InvalidNumber(value), JOB.later, value)
            self.fails(InvalidNumber(value), JOB.moved, value)
        for value in NO_POSITIVES:
            self.fails(InvalidNumber(value), JOB.scaled, parts=value)


if __name__ == "__main__":
    unittest.main()
