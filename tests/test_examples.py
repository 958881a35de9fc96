"""The examples of the interface, word for word, and those of the README."""

import doctest
import pathlib
import unittest

HEADS = '''
>>> from beamheads.heads import Head
>>> head = Head("a", 1, 2, ["saw", "cut"], 3, [(5, 0), (7, 0), (9, 3)])
>>> [head.kinds, head.changes, head.speed_at(4), head.speed_at(5), head.speed_at(10 ** 20)]
[('cut', 'saw'), ((5, 0), (9, 3)), 3, 0, 3]
>>> head.backward()
Head('a', 1, 2, ('cut', 'saw'), 3, ((-9, 0), (-5, 3)))
'''

BEAMS = '''
>>> from beamheads.beams import Beam
>>> from beamheads.heads import Head
>>> beam = Beam(0, 20, Head("a", 1, 1, ["cut"], 2), Head("b", 1, 1, ["cut", "saw"], 1))
>>> [beam.room, beam.distance(1, 2), beam.range_of(1), beam.range_of(2), beam.packed(to_right=True)]
[16, 2, (1, 17), (3, 19), (17, 19)]
>>> [beam.are_right((1, 3)), beam.are_right((1, 2)), beam.are_right([1, 3])]
[True, False, False]
'''

LOSSES = '''
>>> from beamheads.beams import Beam
>>> from beamheads.heads import Head
>>> from beamheads.losses import loss, route_sum
>>> beam = Beam(0, 99, Head("a", 1, 1, ["cut"], 0, [(10, 5)]), Head("b", 1, 1, ["cut"], 5, [(10, 0)]))
>>> [loss(beam, 1, 0, 2, 20), loss(beam, 1, 20, 2, 0), loss(beam, 1, 0, 1, 20), loss(beam, 2, 20, 2, 0)]
[0, 50, 50, 50]
>>> [route_sum(beam, 1, 0, 2, 20, [(1, 4), (2, 20)]), route_sum(beam, 1, 20, 2, 0, [(2, 10), (1, 0)])]
[30, None]
'''

LINES = '''
>>> from beamheads.lines import Line
>>> line = Line(3, 10, [(2, 5), (1, 5), (4, 0)])
>>> [line.last, line.legs, line.at(5), line.corners(), 11 in line, line.backward()]
[10, ((3, 5), (4, 0)), 20, [(3, 10), (6, 25), (10, 25)], False, Line(-10, 25, ((4, 0), (3, -5)))]
>>> Line.through((0, 4), (2, 0)) + Line.stay(2, 0, ticks=5)
Line(0, 4, ((2, -2), (5, 0)))
'''


class TestExamples(unittest.TestCase):

    def run_example(self, name, text):
        example = doctest.DocTestParser().get_doctest(text, {}, name, None, 0)
        told = []
        result = doctest.DocTestRunner(verbose=False).run(example, out=told.append)
        self.assertEqual(result.failed, 0, "".join(told))
        self.assertEqual(result.attempted, text.count(">>>"))

    def test_heads(self):
        self.run_example("heads", HEADS)

    def test_beams(self):
        self.run_example("beams", BEAMS)

    def test_losses(self):
        self.run_example("losses", LOSSES)

    def test_lines(self):
        self.run_example("lines", LINES)

    def test_readme(self):
        path = pathlib.Path(__file__).resolve().parent.parent / "README.md"
        self.run_example("readme", path.read_text("utf-8"))


if __name__ == "__main__":
    unittest.main()
