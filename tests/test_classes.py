import itertools
from random import Random
import unittest

from beamheads.assignments import greatest_assignment, least_assignment
from beamheads.beams import Beam
from beamheads.books import Book
from beamheads.classes import are_steps, classes, differing_classes, steps_between
from beamheads.errors import InvalidAssignment, NoAssignment
from beamheads.jobs import Job
from beamheads.lines import Line
from tests.helpers import ANYTHING, FAR, NO_INTEGERS, NO_LISTS, ErrorCase, small_head
from tests.slow import SlowBook, some_book, some_done_book, some_free_book
from tests.test_pairs import far_book

BEAM = Beam(0, 40, small_head("a", speed=2), small_head("b", speed=2), small_head("c", speed=2))
# The jobs x and y are at the same tick, just two heads apart, so that the one goes with the other; z is free.
BOOK = Book(BEAM, Job("x", "cut", Line(0, 16)), Job("y", "cut", Line(0, 18)), Job("z", "cut", Line(50, 20)))
CLASSES = [[("x", 2), ("y", 3)], [("z", 2)], [("z", 3)]]
STUCK = Book(BEAM, Job("x", "cut", Line(0, 10)), Job("y", "cut", Line(0, 11)))
EMPTY = Book(BEAM)
LEAST, GREATEST = {"x": 1, "y": 2, "z": 1}, {"x": 2, "y": 3, "z": 3}
NO_ASSIGNMENTS = NO_INTEGERS + [0, {}, {"x": 1, "y": 2}, {"x": 1, "y": 3, "z": 1, "w": 1}, {"x": 1, "y": 2, "z": 4},
                                {"x": True, "y": 2, "z": 1}, [("x", 1), ("y", 2), ("z", 1)], {"x": 2, "y": 2, "z": 1},
                                {"x": 3, "y": 2, "z": 1}, {"x": 1, "y": 2, "z": 0}]


def some_books(seed, many):
    random = Random(seed)
    for at in range(many):
        yield random, (some_book, some_done_book, some_free_book, some_free_book, some_free_book)[at % 5](random)


def slow_classes(slow):
    """The classes, from all assignments and all chains."""
    least, greatest = slow.least(), slow.greatest()
    nodes = [(name, number) for name in slow.names for number in range(least[name] + 1, greatest[name] + 1)]
    found = []
    for node in nodes:
        members = sorted(other for other in nodes if other in slow.reached[node] and node in slow.reached[other])
        if members not in found:
            found.append(members)
    return sorted(found)


def parted(found, numbers, others):
    """The classes in which two assignments differ, node by node."""
    return [nodes for nodes in found
            if any((numbers[name] >= number) != (others[name] >= number) for name, number in nodes)]


class TestClasses(ErrorCase):

    def test_against_all_assignments_and_chains(self):
        sizes = []
        for _, book in some_books(641, 120):
            slow = SlowBook(book)
            if not slow.assignments:
                self.fails(NoAssignment(), classes, book)
                continue
            found = classes(book)
            self.same(found, slow_classes(slow))
            # The nodes of one class hold in the same assignments, and those of two classes do not.
            held = [[[numbers[name] >= number for numbers in slow.assignments] for name, number in nodes]
                    for nodes in found]
            self.assertTrue(all(rows == rows[:1] * len(rows) for rows in held))
            self.assertEqual(len({str(rows[0]) for rows in held}), len(held))
            sizes += [len(nodes) for nodes in found] + [-len(found)]
        self.assertTrue({1, 2, 0, -1, -2, -3} <= set(sizes))

    def test_in_numbers(self):
        self.same(classes(BOOK), CLASSES)
        self.same(classes(book=BOOK.without("y")), [[("x", 2)], [("x", 3)], [("z", 2)], [("z", 3)]])
        self.same(classes(BOOK.without("x").without("y")), CLASSES[1:])
        self.same(classes(EMPTY), [])
        self.same(classes(EMPTY.with_job(Job("x", "cut", Line(0, 1)))), [])

    def test_sorted_by_the_first_nodes(self):
        jobs = [Job("x", "cut", Line(0, 16)), Job("z", "cut", Line(0, 18)), Job("y", "cut", Line(50, 20))]
        self.same(classes(Book(BEAM, *jobs)), [[("x", 2), ("z", 3)], [("y", 2)], [("y", 3)]])

    def test_two_nodes_of_one_job(self):
        heads = [small_head("a", speed=2), small_head("b", kinds=["saw"], speed=2), small_head("c", speed=2)]
        book = Book(Beam(0, 40, *heads), Job("x", "cut", Line(0, 16)))
        self.same(classes(book), [[("x", 2), ("x", 3)]])
        self.same(steps_between(book, {"x": 1}, {"x": 3}), [{"x": 1}, {"x": 3}])

    def test_new_lists(self):
        found = classes(BOOK)
        found[0].clear()
        found.pop()
        self.same(classes(BOOK), CLASSES)
        found = differing_classes(BOOK, LEAST, GREATEST)
        found[0].clear()
        found.pop()
        self.same(differing_classes(BOOK, LEAST, GREATEST), CLASSES)


class TestDiffering(ErrorCase):

    def test_all_pairs_of_assignments(self):
        many = set()
        for random, book in some_books(642, 80):
            slow = SlowBook(book)
            found = slow_classes(slow) if slow.assignments else []
            for _ in range(min(12, len(slow.assignments) ** 2)):
                numbers, others = random.choice(slow.assignments), random.choice(slow.assignments)
                wanted = parted(found, numbers, others)
                self.same(differing_classes(book, numbers, others), wanted)
                self.same(differing_classes(book, others, numbers), wanted)
                many.add(len(wanted))
            if slow.assignments:
                self.same(differing_classes(book, slow.least(), slow.greatest()), found)
        self.assertTrue({0, 1, 2, 3} <= many)

    def test_in_numbers(self):
        for other, wanted in [(LEAST, []), (GREATEST, [0, 1, 2]), ({"z": 1, "y": 3, "x": 2}, [0]),
                              ({"x": 1, "y": 2, "z": 2}, [1]), ({"x": 1, "y": 2, "z": 3}, [1, 2])]:
            self.same(differing_classes(BOOK, LEAST, other), [CLASSES[at] for at in wanted])
        self.same(differing_classes(other=GREATEST, assignment=LEAST, book=BOOK), CLASSES)
        self.same(differing_classes(EMPTY, {}, {}), [])


class TestSteps(ErrorCase):

    def test_all_pairs_of_assignments(self):
        many = set()
        for random, book in some_books(643, 80):
            slow = SlowBook(book)
            found = slow_classes(slow) if slow.assignments else []
            for _ in range(min(8, len(slow.assignments) ** 2)):
                numbers, others = random.choice(slow.assignments), random.choice(slow.assignments)
                row = steps_between(book, numbers, others)
                self.assertIs(type(row), list)
                self.assertEqual([row[0], row[-1], len(row)],
                                 [numbers, others, len(parted(found, numbers, others)) + 1])
                for before, after in zip(row, row[1:]):
                    self.assertEqual(len(parted(found, before, after)), 1)
                for step in row:
                    self.assertIn(step, slow.assignments)
                    self.assertEqual(list(step), book.names())
                self.same(are_steps(book, row), True)
                self.same(are_steps(book, tuple(row)), True)
                self.same(are_steps(book, row[::-1]), True)
                many.add(len(row))
        self.assertTrue({1, 2, 3, 4} <= many)

    def test_far_apart(self):
        for _, book in some_books(644, 60):
            least, greatest = least_assignment(book), greatest_assignment(book)
            if least is not None:
                up, down = steps_between(book, least, greatest), steps_between(book, greatest, least)
                self.same([len(up), len(down)], [len(classes(book)) + 1] * 2)
                # Some class has to be last on the one way, so that each way is one of the classes at a time.
                self.same([are_steps(book, up), are_steps(book, down), are_steps(book, up + down[1:])], [True] * 3)

    def test_in_numbers(self):
        self.same(steps_between(BOOK, LEAST, LEAST), [LEAST])
        self.same(steps_between(BOOK, {"z": 1, "y": 2, "x": 1}, {"z": 2, "x": 1, "y": 2}),
                  [LEAST, {"x": 1, "y": 2, "z": 2}])
        self.same(steps_between(BOOK, {"x": 1, "y": 2, "z": 3}, LEAST),
                  [{"x": 1, "y": 2, "z": 3}, {"x": 1, "y": 2, "z": 2}, LEAST])
        self.same(len(steps_between(other=GREATEST, assignment=LEAST, book=BOOK)), 4)
        self.same(steps_between(EMPTY, {}, {}), [{}])

    def test_the_first_one_is_a_copy(self):
        passed = {"z": 1, "y": 2, "x": 1}
        row = steps_between(BOOK, passed, passed)
        self.assertEqual(list(row[0]), ["x", "y", "z"])
        row[0].clear()
        self.assertEqual(list(passed.items()), [("z", 1), ("y", 2), ("x", 1)])
        self.same(steps_between(BOOK, passed, passed), [LEAST])

    def test_rows_against_all_assignments(self):
        found = []
        for random, book in some_books(645, 40):
            slow = SlowBook(book)
            known = slow_classes(slow) if slow.assignments else []
            for _ in range(12 if slow.assignments else 0):
                row = [random.choice(slow.assignments) for _ in range(random.randint(1, 3))]
                if random.random() < 0.2:
                    row.insert(random.randint(0, len(row)), random.choice(slow.all_dicts))
                wanted = all(numbers in slow.assignments for numbers in row) and all(
                    len(parted(known, before, after)) == 1 for before, after in zip(row, row[1:]))
                self.same(are_steps(book, row), wanted)
                found.append(wanted)
        self.assertGreater(min(found.count(True), found.count(False)), 60)

    def test_rows_left_out_doubled_or_exchanged(self):
        row = [LEAST, {"x": 1, "y": 2, "z": 2}, {"x": 2, "y": 3, "z": 2}, GREATEST]
        self.same(are_steps(BOOK, row), True)
        self.same(are_steps(value=tuple(row), book=BOOK), True)
        for at in range(4):
            self.same(are_steps(BOOK, row[:at] + row[at + 1:]), at in (0, 3))
            self.same(are_steps(BOOK, row[:at] + row[at:at + 1] + row[at:]), False)
            self.same(are_steps(BOOK, row[at:at + 1]), True)
        for first, second in itertools.combinations(range(4), 2):
            changed = list(row)
            changed[first], changed[second] = row[second], row[first]
            self.same(are_steps(BOOK, changed), False)
        self.same(are_steps(BOOK, row + row[::-1][1:]), True)
        self.same(are_steps(BOOK, row + row[::-1]), False)

    def test_long_rows(self):
        row = [LEAST, {"x": 1, "y": 2, "z": 2}] * 500
        self.same([are_steps(BOOK, row), are_steps(BOOK, row + row[-1:])], [True, False])

    def test_other_values(self):
        for value in NO_LISTS + [[], (), LEAST, {"x": LEAST}, [[LEAST]], ANYTHING, [None], [LEAST, None],
                                  iter([LEAST])]:
            self.same(are_steps(BOOK, value), False)
            self.same(are_steps(STUCK, value), False)
        for value in NO_ASSIGNMENTS:
            for row in ([value], [LEAST, value], [value, LEAST], [LEAST, {"x": 1, "y": 2, "z": 2}, value]):
                self.same(are_steps(BOOK, row), False)
        self.same([are_steps(EMPTY, [{}]), are_steps(EMPTY, [{}, {}]), are_steps(STUCK, [{"x": 1, "y": 2}])],
                  [True, False, False])


class TestChangedBooks(ErrorCase):

    def test_the_same_classes(self):
        for _, book in some_books(646, 24):
            least, greatest = least_assignment(book), greatest_assignment(book)
            if least is None:
                continue
            for changed in (book.later(-FAR), book.moved(9), book.backward(), book.scaled(parts=3, speed=3),
                            far_book(book, 10 ** 20, 10 ** 38)):
                self.same(classes(changed), classes(book))
                self.same(are_steps(book, steps_between(changed, least, greatest)), True)
            last = len(book.beam) + 2
            turned = [sorted((name, last - number) for name, number in nodes) for nodes in classes(book)]
            self.same(classes(book.mirrored()), sorted(turned))


class TestWrong(ErrorCase):

    def test_assignments(self):
        for function in (differing_classes, steps_between):
            for value in NO_ASSIGNMENTS:
                self.fails(InvalidAssignment(value), function, BOOK, value, LEAST)
                self.fails(InvalidAssignment(value), function, BOOK, LEAST, value)
                self.fails(InvalidAssignment(value), function, BOOK, value, None)
            self.fails(InvalidAssignment("a"), function, BOOK, "a", "b")
            self.fails(InvalidAssignment({}), function, STUCK, {}, {})
            self.fails(InvalidAssignment({"x": 1, "y": 2}), function, STUCK, {"x": 1, "y": 2}, {})

    def test_no_assignment(self):
        self.fails(NoAssignment(), classes, STUCK)
        self.fails(NoAssignment(), classes, EMPTY.with_job(Job("x", "paint", Line(0, 9))))

    def test_what_was_passed_is_not_changed(self):
        before = repr((BOOK, LEAST, GREATEST))
        for _ in range(2):
            self.same(steps_between(BOOK, LEAST, GREATEST), steps_between(BOOK, LEAST, GREATEST))
            self.same(differing_classes(BOOK, LEAST, GREATEST), CLASSES)
            self.same(are_steps(BOOK, [LEAST, GREATEST]), False)
        self.assertEqual(repr((BOOK, LEAST, GREATEST)), before)


if __name__ == "__main__":
    unittest.main()
