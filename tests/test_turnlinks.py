import itertools
from random import Random
import unittest

from beamheads.beams import Beam
from beamheads.books import Book
from beamheads.errors import InvalidNumber, SameJob, UnknownJob, UnknownNumber
from beamheads.heads import Head
from beamheads.jobs import Job
from beamheads.lines import Line
from beamheads.pairs import are_compatible, excess, misfit
from beamheads.links import pushed_to
from beamheads.turnbooks import TurnBook
from beamheads.turnlinks import is_turn_chain, turn_compatible, turn_excess, turn_misfit, turn_pushed_to
from tests.helpers import ANYTHING, FAR, NO_INTEGERS, NO_NAMES, ErrorCase, small_beam, stretched
from tests.slow import numbers_of
from tests.slow_turns import SlowTurns, some_done_turn_book, some_turn_book

BEAM = Beam(0, 20, Head("a", 1, 1, ["cut"], 2, [(5, 0)]), Head("b", 1, 1, ["cut", "saw"], 1))
# The line of y takes a whole turn, and ends a place further right than where it begins.
BOOK = TurnBook(BEAM, 7, Job("x", "cut", Line(0, 10)), Job("y", "saw", Line(3, 12, [(1, 1), (6, 0)])))
NO_JOB_NAMES = NO_NAMES + ["w", "a", "cut", BOOK]
NO_NUMBERS = NO_INTEGERS + [0, 3, -1, FAR, "x"]


def some_books(seed, many):
    random = Random(seed)
    for at in range(many):
        make = (some_turn_book, some_done_turn_book)[at % 2]
        yield random, make(random, jobs=random.randint(1, 3))


def far_book(book, ticks, places):
    """The turn book with all ticks and places multiplied (places by a multiple of ticks)."""
    jobs = [job.on(Line(job.line.first * ticks, job.line.place * places,
                        [(length * ticks, speed * places // ticks) for length, speed in job.line.legs]))
            for job in book.jobs]
    return TurnBook(stretched(book.beam, ticks, places), book.period * ticks, *jobs)


class TestExcess(ErrorCase):

    def test_against_all_ticks_of_both_copies(self):
        for random, book in some_books(821, 80):
            slow = SlowTurns(book, 2)
            for one, other in itertools.product(book.names(), repeat=2):
                for turn in (-7, -2, -1, 0, 1, 2, 5):
                    for i, j in itertools.combinations_with_replacement(numbers_of(book), 2):
                        self.same(turn_excess(book, one, i, other, j, turn), slow.excess(one, i, other, j, turn))

    def test_heads_with_many_changes(self):
        random = Random(822)
        for _ in range(12):
            book = some_turn_book(random, heads=random.randint(3, 5), jobs=2, most_period=9, fastest=5, legs=3)
            slow = SlowTurns(book, 2)
            for turn in (-3, -1, 0, 1, 4):
                for i, j in itertools.combinations_with_replacement(numbers_of(book), 2):
                    self.same(turn_excess(book, "p", i, "q", j, turn), slow.excess("p", i, "q", j, turn))

    def test_far_turns_and_great_numbers(self):
        for random, book in some_books(823, 40):
            slow = SlowTurns(book, 2)
            one, other = random.choice(book.names()), random.choice(book.names())
            for turn in (-1, 0, 1, 3):
                far = far_book(book, 10 ** 19, 10 ** 38)
                for i, j in itertools.combinations_with_replacement(numbers_of(book), 2):
                    self.same(turn_excess(far, one, i, other, j, turn), slow.excess(one, i, other, j, turn) * 10 ** 38)
        # Head 1 moves by 10 in each turn, and head 2 by 7.
        for turn in (1, 10 ** 12, FAR, -FAR):
            self.same(turn_excess(BOOK, "x", 1, "x", 1, turn), -10 * abs(turn))
            self.same(turn_excess(BOOK, "x", 2, "x", 2, turn), -7 * abs(turn))

    def test_in_numbers(self):
        self.same(turn_excess(BOOK, "x", 1, "y", 2, 0), 10 + 2 - 3 - 12)
        self.same(turn_excess(BOOK, "y", 2, "y", 2, 1), 1)
        self.same(turn_excess(BOOK, "y", 2, "y", 2, -1), -1)
        self.same(turn_excess(turn=0, j=2, other="y", i=1, one="x", book=BOOK), -3)

    def test_a_book_of_one_turn(self):
        # What lies within one turn is as in a book without turns.
        random = Random(824)
        for _ in range(40):
            book = some_turn_book(random, jobs=2)
            wide = TurnBook(book.beam, FAR, *book.jobs)
            plain = Book(book.beam, *book.jobs)
            for i, j in itertools.product(numbers_of(book), repeat=2):
                if i <= j:
                    self.same(turn_excess(wide, "p", i, "q", j, 0), excess(plain, "p", i, "q", j))
                self.same(turn_compatible(wide, "p", i, "q", j, 0), are_compatible(plain, "p", i, "q", j))
                self.same(turn_pushed_to(wide, "p", i, "q", 0), pushed_to(plain, "p", i, "q"))
                self.same(turn_misfit(wide, "q", j), misfit(plain, "q", j))


class TestCompatible(ErrorCase):

    def test_against_all_ticks_of_both_copies(self):
        found = []
        for random, book in some_books(831, 120):
            slow = SlowTurns(book, 2)
            for one, other in itertools.product(book.names(), repeat=2):
                for turn in (-6, -2, -1, 0, 1, 2, 3):
                    if one == other and turn == 0:
                        continue
                    for i, j in itertools.product(numbers_of(book), repeat=2):
                        wanted = slow.compatible(one, i, other, j, turn)
                        self.same(turn_compatible(book, one, i, other, j, turn), wanted)
                        self.same(turn_compatible(book, other, j, one, i, -turn), wanted)
                        found.append((one == other, i < j, i == j, wanted))
        self.assertEqual(len(set(found)), 12)

    def test_the_next_copies_of_a_line_of_a_whole_turn(self):
        # By one head the end of one copy and the beginning of the next one would be at one tick at two places.
        self.same([turn_compatible(BOOK, "y", 2, "y", 2, turn) for turn in (-1, 1)], [False, False])
        self.same([turn_compatible(BOOK, "y", 2, "y", 2, turn) for turn in (-2, 2, 3)], [True] * 3)
        flat = TurnBook(BEAM, 7, Job("y", "saw", Line(3, 12, [(7, 0)])))
        self.same([turn_compatible(flat, "y", 2, "y", 2, turn) for turn in (-1, 1, FAR)], [True] * 3)
        self.same(turn_compatible(flat, "y", 1, "y", 2, 1), False)
        self.same([turn_compatible(BOOK, "x", 1, "x", j, 1) for j in (1, 2)], [True, True])
        self.same([turn_compatible(BOOK, "x", 2, "x", j, 1) for j in (1, 2)], [True, True])

    def test_the_same_copy(self):
        for i, j in itertools.product((1, 2), repeat=2):
            self.fails(SameJob("x"), turn_compatible, BOOK, "x", i, "x", j, 0)
        self.same(turn_compatible(turn=-1, j=1, other="x", i=2, one="x", book=BOOK), True)

    def test_misfits(self):
        found = set()
        for random, book in some_books(832, 160):
            slow = SlowTurns(book, 2)
            for name, number in itertools.product(book.names(), numbers_of(book)):
                self.same(turn_misfit(book, name, number), slow.misfit(name, number))
                found.add(slow.misfit(name, number))
        random = Random(833)
        for _ in range(60):
            book = some_turn_book(random, jobs=2, kinds=("cut", "saw"))
            for name, number in itertools.product(book.names(), numbers_of(book)):
                self.same(turn_misfit(book, name, number), SlowTurns(book, 2).misfit(name, number))
                found.add(turn_misfit(book, name, number))
        self.assertEqual(found, {None, "kind", "range", "speed"})

    def test_a_line_that_goes_over_into_the_next_turn(self):
        # In step 7 the head is as fast as in step 0, and in the steps 5 and 6 it stands.
        beam = small_beam(1, 20, [(2, [(5, 0)])])
        lines = [Line(6, 5, [(1, 0), (1, 2)]), Line(6, 5, [(2, 1)]), Line(6, 5, [(1, 0), (5, -1)]), Line(4, 5, [(2, 1)])]
        self.same([turn_misfit(TurnBook(beam, 7, Job("x", "cut", line)), name="x", number=1) for line in lines],
                  [None, "speed", None, "speed"])


class TestPushes(ErrorCase):

    def test_against_all_pairs_of_heads(self):
        found = []
        for random, book in some_books(841, 100):
            slow = SlowTurns(book, 2)
            for one, other in itertools.product(book.names(), repeat=2):
                for turn in (-6, -2, -1, 0, 1, 2, 3):
                    if one == other and turn == 0:
                        continue
                    for i in numbers_of(book):
                        wanted = slow.pushed_to(one, i, other, turn)
                        self.same(turn_pushed_to(book, one, i, other, turn), wanted)
                        found.append((one == other, wanted))
        self.assertEqual({(True, 1), (True, 2), (True, 3), (False, 1), (False, 2), (False, 3)} - set(found), set())

    def test_in_numbers(self):
        self.same([turn_pushed_to(BOOK, "y", 1, "y", turn) for turn in (-2, -1, 1, 2)], [1, 3, 3, 1])
        self.same([turn_pushed_to(BOOK, "y", 2, "y", turn) for turn in (-2, -1, 1, 2)], [1, 3, 3, 1])
        # The line ends just so far right that the left head can begin it again.
        wide = TurnBook(BEAM, 7, Job("y", "saw", Line(3, 12, [(2, 1), (5, 0)])))
        self.same([turn_pushed_to(wide, "y", 1, "y", turn) for turn in (-2, -1, 1, 2)], [1, 2, 1, 1])
        self.same([turn_pushed_to(wide, "y", 2, "y", turn) for turn in (-2, -1, 1, 2)], [1, 3, 1, 1])
        self.same(turn_pushed_to(turn=1, other="y", i=2, one="y", book=BOOK), 3)
        for turn in (FAR, -FAR):
            self.same([turn_pushed_to(BOOK, one, 2, other, turn) for one in "xy" for other in "xy"], [1] * 4)
        still = TurnBook(small_beam(2, 20, [(0, ())] * 2), 3, Job("x", "cut", Line(0, 5)), Job("y", "cut", Line(1, 6)))
        for turn in (FAR, -FAR, 10 ** 12, 1, 0):
            self.same([turn_pushed_to(still, "x", i, "y", turn) for i in (1, 2)], [3, 3])
        self.same(turn_pushed_to(still, "x", 1, "x", FAR), 1)

    def test_the_same_copy(self):
        for i in (1, 2):
            self.fails(SameJob("x"), turn_pushed_to, BOOK, "x", i, "x", 0)


class TestChains(ErrorCase):

    def test_all_pairs_of_nodes(self):
        links = 0
        for random, book in some_books(851, 40):
            slow = SlowTurns(book, 2)
            nodes = list(itertools.product(book.names(), range(1, slow.many + 2), (-1, 0, 1)))
            for node, following in itertools.product(nodes, repeat=2):
                wanted = slow.is_link(node, following)
                self.same(is_turn_chain(book, [node, following]), wanted)
                self.same(is_turn_chain(book, (node, following)), wanted)
                links += wanted
            for node in nodes:
                self.same(is_turn_chain(book, [node]), True)
        self.assertGreater(links, 2000)

    def walk(self, slow, random, length):
        """A chain of random links, of about this length."""
        nodes = list(itertools.product(slow.names, range(1, slow.many + 2), (-9, -1, 0, 1, 2, 9)))
        row = [random.choice(nodes)]
        while len(row) < length:
            turn = row[-1][2]
            found = [(name, number, turn + more) for name, number, more in nodes
                     if slow.is_link(row[-1], (name, number, turn + more))]
            if not found:
                break
            row.append(random.choice(found))
        return row

    def test_longer_chains_and_chains_that_are_changed_at_one_place(self):
        told = []
        for random, book in some_books(852, 40):
            slow = SlowTurns(book, 2)
            row = self.walk(slow, random, 12)
            shift = random.choice([0, -5, FAR])
            far = [(name, number, turn + shift) for name, number, turn in row]
            self.same(is_turn_chain(book, far), True)
            for at in range(len(row)):
                name, number, turn = row[at]
                changed = random.choice([(name, number + 1, turn), (name, number - 1, turn), (name, number, turn + 1),
                                         (name, number, turn - 1), (random.choice(slow.names), number, turn)])
                for value in (row[:at] + [changed] + row[at + 1:], row[:at] + row[at + 1:], row[:at + 1] + row[at:]):
                    self.same(is_turn_chain(book, value), slow.is_chain(value))
                    told.append(slow.is_chain(value))
        self.assertGreater(min(told.count(True), told.count(False)), 60)

    def test_far_turns(self):
        still = TurnBook(small_beam(2, 20, [(0, ())] * 2), 3, Job("x", "cut", Line(0, 5)), Job("y", "cut", Line(1, 9)))
        self.same(is_turn_chain(still, [("x", 1, -FAR), ("y", 2, FAR), ("y", 1, FAR)]), True)
        self.same(is_turn_chain(still, [("x", 1, -FAR), ("y", 3, FAR)]), False)
        self.same(is_turn_chain(still, [("x", 2, -FAR), ("y", 3, FAR)]), True)
        self.same(is_turn_chain(still, [("y", 2, FAR), ("x", 2, 0)]), False)
        self.same(is_turn_chain(still, [("x", 1, -FAR), ("x", 2, FAR)]), False)
        self.same(is_turn_chain(still, [("x", 2, -FAR), ("x", 2, FAR)]), True)
        self.same(is_turn_chain(BOOK, [("y", 2, -FAR), ("y", 3, 1 - FAR)]), True)
        self.same(is_turn_chain(BOOK, [("y", 2, -FAR), ("y", 3, 2 - FAR)]), False)

    def test_skips_and_drops_stay_in_their_turn(self):
        self.same(is_turn_chain(BOOK, [("y", 1, 4), ("y", 2, 4), ("y", 1, 4)]), True)
        self.same(is_turn_chain(BOOK, [("y", 1, 4), ("y", 2, 6)]), False)
        self.same(is_turn_chain(BOOK, [("y", 2, 4), ("y", 1, 5)]), False)
        self.same(is_turn_chain(BOOK, [("y", 2, 4), ("y", 3, 4)]), False)
        self.same(is_turn_chain(BOOK, [("y", 3, 4), ("y", 2, 4)]), False)
        self.same(is_turn_chain(BOOK, [("x", 1, 4), ("x", 2, 4)]), False)
        self.same(is_turn_chain(BOOK, [("x", 2, 4), ("x", 2, 4)]), False)

    def test_four_hundred_nodes(self):
        row = [("y", 1, 0), ("y", 2, 0)] * 200
        self.same(is_turn_chain(BOOK, row), True)
        self.same(is_turn_chain(BOOK, tuple(row)), True)
        self.same(is_turn_chain(BOOK, row + [("y", 1, 0)]), False)
        self.same(is_turn_chain(BOOK, row[:399]), True)
        self.same(is_turn_chain(BOOK, [("y", 1, 0)] + [node for turn in range(1, 200)
                                                       for node in (("y", 2, turn), ("y", 1, turn))]), True)
        # Far turns, all different ones.
        still = TurnBook(small_beam(2, 20, [(0, ())] * 2), 3, Job("x", "cut", Line(0, 5)), Job("y", "cut", Line(1, 6)))
        row = [node for at in range(100) for node in (("x", 2, -at * FAR // 133), ("x", 1, -at * FAR // 133),
                                                      ("y", 2, at ** 9 * 10 ** 20), ("y", 1, at ** 9 * 10 ** 20))]
        self.same(is_turn_chain(still, row), True)
        self.same(is_turn_chain(still, row[:-1] + [("y", 1, 1)]), False)
        self.same(is_turn_chain(still, row + [("x", 2, 0)]), False)

    def test_other_values(self):
        for value in NO_INTEGERS + [0, "ab", [], (), {}, ANYTHING, [None], ("x", 1, 0), [["x", 1, 0]], [("x", 1)],
                                    [("x", 1, 0, 0)], [("x", True, 0)], [("x", 1, True)], [("x", 1, None)],
                                    [("x", 1, "0")], [("w", 1, 0)], [("x", 0, 0)], [("x", 4, 0)], [("x", None, 0)],
                                    [(None, 1, 0)], [("x", 1, ANYTHING)], [(ANYTHING, 1, 0)], {("x", 1, 0): 1},
                                    {("x", 1, 0)}, [("x", 1, 0), None], [("x", -1, 0)], [ANYTHING]]:
            self.same(is_turn_chain(BOOK, value), False)
        self.same(is_turn_chain(value=[("x", 3, -FAR)], book=BOOK), True)
        self.same(is_turn_chain(TurnBook(BEAM, 7), []), False)


class TestWrong(ErrorCase):

    def test_names_and_numbers(self):
        calls = [lambda one, i, other, j, turn: turn_excess(BOOK, one, i, other, j, turn),
                 lambda one, i, other, j, turn: turn_compatible(BOOK, one, i, other, j, turn)]
        for call in calls:
            for value in NO_JOB_NAMES:
                self.fails(UnknownJob(value), call, value, None, None, None, None)
                self.fails(UnknownJob(value), call, "x", 1, value, None, None)
            for value in NO_NUMBERS:
                self.fails(UnknownNumber(value), call, "x", value, None, None, None)
                self.fails(UnknownNumber(value), call, "x", 1, "y", value, None)
            for value in NO_INTEGERS:
                self.fails(InvalidNumber(value), call, "x", 1, "y", 2, value)
                self.fails(InvalidNumber(value), call, "x", 1, "x", 2, value)
        self.fails(UnknownNumber(1), turn_excess, BOOK, "x", 2, "y", 1, 0)
        self.fails(UnknownNumber(1), turn_excess, BOOK, "x", 2, "y", 1, None)
        self.same(turn_compatible(BOOK, "x", 2, "y", 1, 0), False)
        self.same(turn_excess(BOOK, "x", 1, "x", 1, 0), 0)

    def test_pushes(self):
        for value in NO_JOB_NAMES:
            self.fails(UnknownJob(value), turn_pushed_to, BOOK, value, None, None, None)
            self.fails(UnknownJob(value), turn_pushed_to, BOOK, "x", 1, value, None)
            self.fails(UnknownJob(value), turn_misfit, BOOK, value, None)
        for value in NO_NUMBERS:
            self.fails(UnknownNumber(value), turn_pushed_to, BOOK, "x", value, None, None)
            self.fails(UnknownNumber(value), turn_misfit, BOOK, "x", value)
        for value in NO_INTEGERS:
            self.fails(InvalidNumber(value), turn_pushed_to, BOOK, "x", 1, "y", value)
            self.fails(InvalidNumber(value), turn_pushed_to, BOOK, "x", 1, "x", value)

    def test_what_was_passed_is_not_changed(self):
        before = repr(BOOK)
        row = [("y", 1, 0), ("y", 2, 1)]
        for _ in range(2):
            self.same(is_turn_chain(BOOK, row), True)
            self.same(turn_pushed_to(BOOK, "y", 1, "y", 1), 3)
        self.assertEqual([repr(BOOK), row], [before, [("y", 1, 0), ("y", 2, 1)]])


if __name__ == "__main__":
    unittest.main()
