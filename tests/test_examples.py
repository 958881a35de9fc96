"""The examples of the interface, word for word, and those of the README."""

import doctest
import pathlib
import unittest

HEADS = '''
>>> from beamheads.heads import Head
>>> head = Head("a", 1, 2, ["saw", "cut"], 3, [(5, 0), (7, 0), (9, 3)])
>>> [head.kinds, head.changes, head.speed_at(4), head.speed_at(5), head.speed_at(10 ** 20)]
[('cut', 'saw'), ((5, 0), (9, 3)), 3, 0, 3]
>>> head.backward()
Head('a', 1, 2, ('cut', 'saw'), 3, ((-9, 0), (-5, 3)))
'''

BEAMS = '''
>>> from beamheads.beams import Beam
>>> from beamheads.heads import Head
>>> beam = Beam(0, 20, Head("a", 1, 1, ["cut"], 2), Head("b", 1, 1, ["cut", "saw"], 1))
>>> [beam.room, beam.distance(1, 2), beam.range_of(1), beam.range_of(2), beam.packed(to_right=True)]
[16, 2, (1, 17), (3, 19), (17, 19)]
>>> [beam.are_right((1, 3)), beam.are_right((1, 2)), beam.are_right([1, 3])]
[True, False, False]
'''

LOSSES = '''
>>> from beamheads.beams import Beam
>>> from beamheads.heads import Head
>>> from beamheads.losses import loss, route_sum
>>> beam = Beam(0, 99, Head("a", 1, 1, ["cut"], 0, [(10, 5)]), Head("b", 1, 1, ["cut"], 5, [(10, 0)]))
>>> [loss(beam, 1, 0, 2, 20), loss(beam, 1, 20, 2, 0), loss(beam, 1, 0, 1, 20), loss(beam, 2, 20, 2, 0)]
[0, 50, 50, 50]
>>> [route_sum(beam, 1, 0, 2, 20, [(1, 4), (2, 20)]), route_sum(beam, 1, 20, 2, 0, [(2, 10), (1, 0)])]
[30, None]
'''

LINES = '''
>>> from beamheads.lines import Line
>>> line = Line(3, 10, [(2, 5), (1, 5), (4, 0)])
>>> [line.last, line.legs, line.at(5), line.corners(), 11 in line, line.backward()]
[10, ((3, 5), (4, 0)), 20, [(3, 10), (6, 25), (10, 25)], False, Line(-10, 25, ((4, 0), (3, -5)))]
>>> Line.through((0, 4), (2, 0)) + Line.stay(2, 0, ticks=5)
Line(0, 4, ((2, -2), (5, 0)))
'''

PAIRS = '''
>>> from beamheads.beams import Beam
>>> from beamheads.books import Book
>>> from beamheads.heads import Head
>>> from beamheads.jobs import Job
>>> from beamheads.lines import Line
>>> from beamheads.pairs import are_compatible, excess, misfit
>>> beam = Beam(0, 20, Head("a", 1, 1, ["cut"], 2), Head("b", 1, 1, ["cut", "saw"], 1))
>>> book = Book(beam, Job("x", "cut", Line(0, 10)), Job("y", "saw", Line(3, 9, [(2, 1)])))
>>> [excess(book, "x", 1, "y", 2), excess(book, "y", 2, "y", 2), misfit(book, "y", 1), misfit(book, "y", 2)]
[0, 0, 'kind', None]
>>> [are_compatible(book, "x", 1, "y", 2), are_compatible(book, "x", 2, "y", 2), are_compatible(book, "x", 2, "y", 1)]
[True, True, True]
>>> twice = book.with_job(Job("z", "cut", Line(0, 10)))
>>> [are_compatible(twice, "x", 1, "z", 1), are_compatible(twice, "x", 1, "z", 2)]
[True, False]
'''

LINKS = '''
>>> from beamheads.beams import Beam
>>> from beamheads.books import Book
>>> from beamheads.heads import Head
>>> from beamheads.jobs import Job
>>> from beamheads.lines import Line
>>> from beamheads.links import link_word, pushed_to
>>> beam = Beam(0, 40, Head("a", 5, 5, ["cut"], 1), Head("b", 5, 5, ["cut"], 0), Head("c", 5, 5, ["cut"], 1))
>>> book = Book(beam, Job("x", "cut", Line(0, 20)), Job("y", "cut", Line(10, 23)))
>>> [pushed_to(book, "x", 1, "y"), pushed_to(book, "x", 2, "y"), link_word(book, ("x", 2), ("y", 2))]
[1, 3, 'push']
>>> [link_word(book, ("x", 1), ("x", 2)), link_word(book, ("x", 2), ("x", 1)), link_word(book, ("x", 2), ("x", 3))]
['skip', 'drop', None]
'''

ASSIGNMENTS = '''
>>> from beamheads.assignments import greatest_assignment, is_refusal, least_assignment, refusal
>>> from beamheads.beams import Beam
>>> from beamheads.books import Book
>>> from beamheads.heads import Head
>>> from beamheads.jobs import Job
>>> from beamheads.lines import Line
>>> beam = Beam(0, 20, Head("a", 1, 1, ["cut"], 2), Head("b", 1, 1, ["cut", "saw"], 1))
>>> book = Book(beam, Job("x", "cut", Line(0, 10)), Job("y", "saw", Line(3, 9, [(2, 1)])))
>>> [least_assignment(book), greatest_assignment(book), refusal(book)]
[{'x': 1, 'y': 2}, {'x': 2, 'y': 2}, None]
>>> stuck = Book(beam, Job("x", "cut", Line(0, 10)), Job("y", "cut", Line(0, 11)))
>>> [least_assignment(stuck), is_refusal(stuck, [("x", 1), ("y", 3)]), is_refusal(stuck, [("x", 1), ("x", 2)])]
[None, True, False]
'''

SPACES = '''
>>> from beamheads.beams import Beam
>>> from beamheads.books import Book
>>> from beamheads.heads import Head
>>> from beamheads.jobs import Job
>>> from beamheads.lines import Line
>>> from beamheads.spaces import beside, free_places, is_barring
>>> beam = Beam(0, 20, Head("a", 1, 1, ["cut"], 1), Head("b", 1, 1, ["cut"], 1))
>>> book = Book(beam, Job("x", "cut", Line(0, 10)))
>>> [free_places(book, 1, 0), free_places(book, 1, 1), beside(book, 1, 0, 9, "x")]
[[(1, 8), (10, 10)], [(1, 11)], (2, 1)]
>>> [is_barring(book, 1, 0, 9, [("x", 2)]), is_barring(book, 1, 0, 9, [("x", 2), ("x", 3)])]
[True, False]
'''

TEXTS = '''
>>> from beamheads.beams import Beam
>>> from beamheads.books import Book
>>> from beamheads.heads import Head
>>> from beamheads.jobs import Job
>>> from beamheads.lines import Line
>>> from beamheads.texts import book_text
>>> beam = Beam(0, 20, Head("a", 1, 1, ["cut"], 2, [(5, 0)]), Head("b", 1, 1, ["saw", "cut"], 1))
>>> book_text(Book(beam, Job("y", "saw", Line(3, 9, [(2, 1)])), Job("x", "cut", Line(0, 10))))
'beam 0 20\\nhead a 1 1 2 5 0\\ndoes cut\\nhead b 1 1 1\\ndoes cut saw\\njob x cut 0 10\\njob y saw 3 9 2 1\\n'
'''


class TestExamples(unittest.TestCase):

    def run_example(self, name, text):
        example = doctest.DocTestParser().get_doctest(text, {}, name, None, 0)
        told = []
        result = doctest.DocTestRunner(verbose=False).run(example, out=told.append)
        self.assertEqual(result.failed, 0, "".join(told))
        self.assertEqual(result.attempted, text.count(">>>"))

    def test_heads(self):
        self.run_example("heads", HEADS)

    def test_beams(self):
        self.run_example("beams", BEAMS)

    def test_losses(self):
        self.run_example("losses", LOSSES)

    def test_lines(self):
        self.run_example("lines", LINES)

    def test_pairs(self):
        self.run_example("pairs", PAIRS)

    def test_links(self):
        self.run_example("links", LINKS)

    def test_assignments(self):
        self.run_example("assignments", ASSIGNMENTS)

    def test_spaces(self):
        self.run_example("spaces", SPACES)

    def test_texts(self):
        self.run_example("texts", TEXTS)

    def test_readme(self):
        path = pathlib.Path(__file__).resolve().parent.parent / "README.md"
        self.run_example("readme", path.read_text("utf-8"))


if __name__ == "__main__":
    unittest.main()
