import itertools
from random import Random
import unittest

from beamheads.beams import Beam
from beamheads.books import Book
from beamheads.choices import (are_left_chains, assignment_with, exclusion, is_exclusion, least_from, left_chains,
                               not_left, surely_left)
from beamheads.errors import NoAssignment, SameJob, UnknownJob, UnknownNumber
from beamheads.heads import Head
from beamheads.jobs import Job
from beamheads.lines import Line
from tests.helpers import ANYTHING, FAR, NO_INTEGERS, NO_NAMES, ErrorCase, small_beam, small_head
from tests.slow import SlowBook, numbers_of, some_book, some_done_book, some_free_book
from tests.test_pairs import far_book

BEAM = Beam(0, 30, Head("a", 1, 1, ["cut"], 2), Head("b", 1, 1, ["cut", "saw"], 1), Head("c", 1, 1, ["saw"], 0))
# At tick 0 the jobs x and y are just as far apart as two neighbours; the third head stands, so that it cannot
# do y if some head has to do z.
BOOK = Book(BEAM, Job("x", "cut", Line(0, 10)), Job("y", "saw", Line(0, 12)), Job("z", "saw", Line(50, 20)))
STUCK = Book(BEAM, Job("x", "cut", Line(0, 10)), Job("y", "cut", Line(0, 11)))
NO_JOB_NAMES = NO_NAMES + ["w", "a", "cut", BOOK, ("x", 1)]
NO_NUMBERS = NO_INTEGERS + [0, 4, -1, FAR, "x"]
OF_NUMBERS = (least_from, assignment_with, exclusion, lambda book, name, number: is_exclusion(book, name, number, None))
OF_PAIRS = (surely_left, left_chains, lambda book, one, other: are_left_chains(book, one, other, None), not_left)


def some_books(seed, many):
    random = Random(seed)
    for at in range(many):
        yield random, (some_book, some_done_book, some_free_book, some_free_book)[at % 4](random)


def all_nodes(book):
    return list(itertools.product(book.names(), numbers_of(book)))


def leads(slow, row, begin, end):
    """Whether the row is a chain from the one node, or a number 1, to the other one, or beyond all heads."""
    return (slow.is_chain(row) and (row[0] == begin or row[0][1] == 1)
            and (row[-1] == end or row[-1][1] == slow.many + 1))


class TestLeastFrom(ErrorCase):

    def test_against_all_dicts(self):
        many = []
        for _, book in some_books(611, 100):
            slow = SlowBook(book)
            for name, number in all_nodes(book):
                chosen = [numbers for numbers in slow.assignments if numbers[name] >= number]
                self.same(least_from(book, name, number), slow.least(chosen))
                exact = [numbers for numbers in slow.assignments if numbers[name] == number]
                self.same(assignment_with(book, name, number), slow.least(exact))
                many.append((min(len(chosen), 2), min(len(exact), 2)))
        self.assertEqual({(0, 0), (1, 0), (1, 1), (2, 0), (2, 1), (2, 2)} - set(many), set())

    def test_in_numbers(self):
        self.same([least_from(BOOK, "x", number) for number in (1, 2, 3)],
                  [{"x": 1, "y": 2, "z": 2}, None, None])
        self.same([least_from(BOOK, "z", number) for number in (1, 2, 3)],
                  [{"x": 1, "y": 2, "z": 2}, {"x": 1, "y": 2, "z": 2}, {"x": 1, "y": 2, "z": 3}])
        book = BOOK.with_beam(BEAM.scaled(speed=FAR)).without("z").with_job(Job("z", "cut", Line(9, 20)))
        self.same([least_from(book, "z", number) for number in (1, 2, 3)],
                  [{"x": 1, "y": 2, "z": 1}, {"x": 1, "y": 2, "z": 2}, None])
        self.same([assignment_with(book, "z", number) for number in (1, 2, 3)],
                  [{"x": 1, "y": 2, "z": 1}, {"x": 1, "y": 2, "z": 2}, None])
        self.same([assignment_with(book, "y", number) for number in (1, 2, 3)], [None, {"x": 1, "y": 2, "z": 1}, None])

    def test_a_head_between_that_the_job_cannot_have(self):
        beam = Beam(0, 99, small_head("a", speed=9), small_head("b", kinds=["saw"], speed=9), small_head("c", speed=9))
        book = Book(beam, Job("x", "cut", Line(0, 40)))
        self.same([least_from(book, "x", number) for number in (1, 2, 3)], [{"x": 1}, {"x": 3}, {"x": 3}])
        self.same([assignment_with(book, "x", number) for number in (1, 2, 3)], [{"x": 1}, None, {"x": 3}])
        self.same(exclusion(book, "x", 2), [("x", 2), ("x", 3)])
        self.same([exclusion(book, "x", 1), exclusion(book, "x", 3)], [None, None])

    def test_new_dicts(self):
        for function in (least_from, assignment_with):
            found = function(BOOK, "x", 1)
            self.assertEqual(list(found), ["x", "y", "z"])
            found.clear()
            self.same(function(number=1, name="x", book=BOOK), {"x": 1, "y": 2, "z": 2})


class TestExclusions(ErrorCase):

    def test_exactly_if_the_job_cannot_have_the_head(self):
        count = 0
        for _, book in some_books(621, 100):
            slow = SlowBook(book)
            for name, number in all_nodes(book):
                found = exclusion(book, name, number)
                self.assertEqual(found is None, any(numbers[name] == number for numbers in slow.assignments))
                if found is not None:
                    self.assertIs(type(found), list)
                    self.assertTrue(leads(slow, found, (name, number), (name, number + 1)))
                    self.same(is_exclusion(book, name, number, found), True)
                    self.same(is_exclusion(book, name, number, tuple(found)), True)
                    count += len(found) > 2
        self.assertGreater(count, 40)

    def test_each_short_chain(self):
        for _, book in some_books(622, 24):
            slow = SlowBook(book)
            for name, number in all_nodes(book):
                for row in itertools.chain([[node] for node in slow.nodes], map(list, slow.links)):
                    self.same(is_exclusion(book, name, number, row),
                              leads(slow, row, (name, number), (name, number + 1)))

    def test_chains_that_are_changed_at_one_place(self):
        for random, book in some_books(623, 60):
            slow = SlowBook(book)
            for name, number in all_nodes(book):
                found = exclusion(book, name, number)
                if found is None:
                    continue
                for at in range(len(found)):
                    node = random.choice(slow.nodes)
                    for row in (found[:at] + found[at + 1:], found[:at] + [node] + found[at + 1:],
                                found[:at] + [node] + found[at:], found[:at], found[at:]):
                        self.same(is_exclusion(book, name, number, row),
                                  leads(slow, row, (name, number), (name, number + 1)))

    def test_longer_chains(self):
        self.same(is_exclusion(BOOK, "x", 2, [("x", 2), ("y", 3), ("z", 4)]), True)
        self.same(is_exclusion(BOOK, "x", 2, [("x", 2), ("x", 1)]), False)
        self.same(is_exclusion(BOOK, "x", 3, [("x", 3), ("x", 4)]), True)
        self.same(is_exclusion(BOOK, "x", 3, [("x", 3), ("x", 2), ("y", 3), ("z", 4)]), True)
        self.same(is_exclusion(BOOK, "x", 3, [("x", 2), ("y", 3), ("z", 4)]), False)
        self.same(is_exclusion(BOOK, "z", 1, [("z", 1), ("z", 2)]), True)
        self.same(is_exclusion(BOOK, "y", 1, [("x", 1), ("y", 2)]), True)
        self.same(is_exclusion(BOOK, "y", 1, [("y", 2)]), False)
        self.same(is_exclusion(BOOK, "z", 1, [("x", 1), ("y", 2)]), False)

    def test_books_without_an_assignment(self):
        for name, number in all_nodes(STUCK):
            found = exclusion(STUCK, name, number)
            self.same(is_exclusion(STUCK, name, number, found), True)
            self.same(is_exclusion(STUCK, name, number, [("x", 1), ("y", 4)]), True)
            self.same([least_from(STUCK, name, number), assignment_with(STUCK, name, number)], [None, None])

    def test_other_values(self):
        for value in NO_INTEGERS + [0, "ab", [], (), {}, ANYTHING, [None], [("x", 2)], [("x", 3)], ("x", 2),
                                    [["x", 2], ["y", 3], ["z", 4]], [("x", 2), ("y", 3), ("y", 4)],
                                    [("x", 2), ("y", 3), ("y", True)],
                                    {("x", 2): 1}, [("x", 2), ("y", 3), ("y", 5)], [("w", 1), ("w", 4)]]:
            self.same(is_exclusion(BOOK, "x", 2, value), False)
        self.same(is_exclusion(value=[("x", 3), ("x", 4)], number=3, name="x", book=BOOK), True)

    def test_new_lists(self):
        found = exclusion(BOOK, "x", 2)
        wanted = list(found)
        found.clear()
        self.same(exclusion(number=2, name="x", book=BOOK), wanted)


class TestLeft(ErrorCase):

    def test_all_pairs_of_jobs(self):
        found = []
        for _, book in some_books(631, 120):
            slow = SlowBook(book)
            for one, other in itertools.permutations(book.names(), 2):
                if not slow.assignments:
                    for function in OF_PAIRS:
                        self.fails(NoAssignment(), function, book, one, other)
                    continue
                beyond = [numbers for numbers in slow.assignments if numbers[one] >= numbers[other]]
                self.same(surely_left(book, one, other), not beyond)
                self.check(slow, one, other, not beyond)
                found.append(not beyond)
                counter = not_left(book, one, other)
                self.assertEqual(counter is None, not beyond)
                self.assertTrue(counter is None or counter in beyond and list(counter) == book.names())
        self.assertGreater(min(found.count(True), found.count(False)), 60)

    def check(self, slow, one, other, wanted):
        """The left chains are there exactly if they are wanted, and are right link by link."""
        chains = left_chains(slow.book, one, other)
        if not wanted:
            self.assertIsNone(chains)
            return
        self.assertIs(type(chains), list)
        self.assertEqual(len(chains), slow.many)
        for number, chain in enumerate(chains, 1):
            self.assertIs(type(chain), list)
            self.assertTrue(leads(slow, chain, (one, number), (other, number + 1)))
        self.same(are_left_chains(slow.book, one, other, chains), True)
        self.same(are_left_chains(slow.book, one, other, tuple(map(tuple, chains))), True)

    def test_chains_that_are_left_out_exchanged_or_changed(self):
        count = 0
        for random, book in some_books(632, 80):
            slow = SlowBook(book)
            for one, other in itertools.permutations(book.names(), 2):
                chains = left_chains(book, one, other) if slow.assignments else None
                if chains is None:
                    continue
                wrong = [chains[:-1], chains[1:], chains + chains[:1], chains * 2, []]
                wrong += [chains[:at] + [[]] + chains[at + 1:] for at in range(slow.many)]
                wrong += [chains[:at] + [chains[at] + chains[at][-1:]] + chains[at + 1:] for at in range(slow.many)]
                for value in wrong:
                    self.same(are_left_chains(book, one, other, value), False)
                mixed = [list(chains) for chains in itertools.permutations(chains)][:12]
                for at in range(slow.many):
                    chain = list(chains[at])
                    chain[random.randrange(len(chain))] = random.choice(slow.nodes)
                    mixed.append(chains[:at] + [chain] + chains[at + 1:])
                for value in mixed:
                    wanted = all(leads(slow, chain, (one, number), (other, number + 1))
                                 for number, chain in enumerate(value, 1))
                    self.same(are_left_chains(book, one, other, value), wanted)
                    count += not wanted
        self.assertGreater(count, 100)

    def test_in_numbers(self):
        self.same([surely_left(BOOK, one, other) for one, other in itertools.permutations("xyz", 2)],
                  [True, True, False, False, False, False])
        self.same(not_left(BOOK, "y", "x"), {"x": 1, "y": 2, "z": 2})
        chains = [[("x", 1), ("y", 2)], [("x", 2), ("y", 3)], [("x", 3), ("x", 4)]]
        self.same(are_left_chains(BOOK, "x", "y", chains), True)
        self.same(are_left_chains(BOOK, "y", "x", chains), False)
        self.same(are_left_chains(BOOK, "x", "z", chains), False)
        self.same(are_left_chains(BOOK, "x", "y", [chains[0], chains[0], chains[2]]), False)
        self.same(are_left_chains(BOOK, "x", "y", [chains[0], [("x", 2), ("y", 3), ("z", 4)], chains[2]]), True)
        self.same(are_left_chains(BOOK, "x", "y", [[("z", 1), ("z", 2)]] + chains[1:]), False)
        # A chain from a node with the number 1, though it does not begin at the job.
        self.same(are_left_chains(BOOK, "x", "z", [[("z", 1), ("z", 2)], [("x", 2), ("y", 3), ("z", 4)], chains[2]]),
                  True)

    def test_other_values(self):
        for value in NO_INTEGERS + [0, "abc", {}, {1: 2}, ANYTHING, [None] * 3, [[]] * 3, "xyz", [("x", 1)] * 3,
                                    [[("x", 1), ("y", 2)], [("x", 2), ("y", 3)], None],
                                    [[("x", 1), ("y", 2)], [("x", 2), ("y", 3)], [["x", 3], ["x", 4]]],
                                    {("x", 1): 1, ("x", 2): 2, ("x", 3): 3}]:
            self.same(are_left_chains(BOOK, "x", "y", value), False)

    def test_new_lists(self):
        found = left_chains(BOOK, "x", "y")
        wanted = [list(chain) for chain in found]
        found[0].clear()
        found.pop()
        self.same(left_chains(other="y", one="x", book=BOOK), wanted)
        not_left(BOOK, "y", "x").clear()
        self.same(not_left(other="x", one="y", book=BOOK), {"x": 1, "y": 2, "z": 2})
        self.same(are_left_chains(value=wanted, other="y", one="x", book=BOOK), True)
        self.same(surely_left(other="y", one="x", book=BOOK), True)


class TestChangedBooks(ErrorCase):

    def test_the_same_answers(self):
        for _, book in some_books(641, 24):
            for changed in (book.later(-FAR), book.moved(9), book.backward(), book.scaled(parts=3, speed=3),
                            far_book(book, 10 ** 20, 10 ** 38)):
                for name, number in all_nodes(book):
                    self.same(least_from(changed, name, number), least_from(book, name, number))
                    self.same(assignment_with(changed, name, number), assignment_with(book, name, number))
                    found = exclusion(changed, name, number)
                    self.same(is_exclusion(book, name, number, found), found is not None)

    def test_mirrored(self):
        for _, book in some_books(642, 24):
            last = len(book.beam) + 1
            for name, number in all_nodes(book):
                self.assertEqual(exclusion(book.mirrored(), name, last - number) is None,
                                 exclusion(book, name, number) is None)
            if not book.names() or least_from(book, book.names()[0], 1) is None:
                continue
            for one, other in itertools.permutations(book.names(), 2):
                self.same(surely_left(book.mirrored(), one, other), surely_left(book, other, one))


class TestWrong(ErrorCase):

    def test_names_and_numbers(self):
        for function in OF_NUMBERS:
            for value in NO_JOB_NAMES:
                self.fails(UnknownJob(value), function, BOOK, value, 1)
                self.fails(UnknownJob(value), function, STUCK, value, None)
            for value in NO_NUMBERS:
                self.fails(UnknownNumber(value), function, BOOK, "x", value)
                self.fails(UnknownNumber(value), function, STUCK, "x", value)
            self.fails(UnknownJob("x"), function, Book(BEAM), "x", 1)

    def test_pairs(self):
        for function in OF_PAIRS:
            for value in NO_JOB_NAMES:
                self.fails(UnknownJob(value), function, BOOK, value, "y")
                self.fails(UnknownJob(value), function, BOOK, "x", value)
                self.fails(UnknownJob(value), function, STUCK, "x", value)
                self.fails(UnknownJob("w"), function, STUCK, "w", value)
            for book in (BOOK, STUCK):
                self.fails(SameJob("x"), function, book, "x", "x")
            self.fails(UnknownJob("w"), function, BOOK, "w", "w")
            self.fails(NoAssignment(), function, STUCK, "x", "y")

    def test_one_head(self):
        book = Book(small_beam(1, 9), Job("x", "cut", Line(0, 0)), Job("y", "cut", Line(5, 0)))
        self.same([least_from(book, "x", 1), exclusion(book, "x", 1)], [{"x": 1, "y": 1}, None])
        self.same([surely_left(book, "x", "y"), left_chains(book, "x", "y"), not_left(book, "x", "y")],
                  [False, None, {"x": 1, "y": 1}])
        self.fails(UnknownNumber(2), least_from, book, "x", 2)

    def test_what_was_passed_is_not_changed(self):
        before = repr(BOOK)
        chains = left_chains(BOOK, "x", "y")
        copied = repr(chains)
        for _ in range(2):
            self.same(are_left_chains(BOOK, "x", "y", chains), True)
            self.same(is_exclusion(BOOK, "x", 3, chains[2]), True)
        self.assertEqual([repr(BOOK), repr(chains)], [before, copied])


if __name__ == "__main__":
    unittest.main()
