import itertools
from random import Random
import unittest

from beamheads.beams import Beam
from beamheads.books import Book
from beamheads.errors import InvalidNumber, OutOfRange, UnknownJob, UnknownNumber
from beamheads.heads import Head
from beamheads.jobs import Job
from beamheads.lines import Line
from beamheads.motions import highest_of_all, lowest_of_all
from beamheads.spaces import assignment_beside, barring, beside, free_places, is_barring
from tests.helpers import ANYTHING, FAR, NO_INTEGERS, NO_NAMES, ErrorCase, small_beam, small_head
from tests.slow import (SlowBook, numbers_of, possible_places, some_book, some_done_book, some_free_book, step_losses,
                        ticks_of, window_of)
from tests.test_pairs import far_book

BEAM = Beam(0, 20, Head("a", 1, 1, ["cut"], 1), Head("b", 1, 1, ["cut"], 1))
BOOK = Book(BEAM, Job("x", "cut", Line(0, 10)))
STUCK = Book(BEAM, Job("x", "cut", Line(0, 10)), Job("y", "cut", Line(0, 11)))
EMPTY = Book(BEAM)
SPOTS = (assignment_beside, barring, lambda *spot: is_barring(*spot, None), lambda *spot: beside(*spot, "x"))


def slow_beside(book, number, tick, place, name):
    """LOW and HIGH straight from the words of the document, tick by tick."""
    beam, line = book.beam, book.job(name).line
    lows = [j for j in range(1, number + 1)
            if max(line.at(s) + distance(beam, j, number) - step_losses(beam, j, s, tick)[number]
                   for s in ticks_of(line)) <= place]
    highs = [j for j in range(number, len(beam) + 1)
             if all(place + distance(beam, number, j) - step_losses(beam, number, tick, t)[j] <= line.at(t)
                    for t in ticks_of(line))]
    return min(lows, default=number + 1), max(highs, default=number - 1)


def distance(beam, i, j):
    return sum(beam.head(k).right + beam.head(k + 1).left for k in range(i, j))


def places_of(book, number):
    least, greatest = book.beam.range_of(number)
    return range(least, greatest + 1)


def some_books(seed, many):
    """Books so small that all their motions can be tried."""
    random = Random(seed)
    for at in range(many):
        heads, room = random.choice([(1, 6), (2, 6), (2, 9), (3, 3)])
        if at % 2:
            yield random, some_moments(random, heads, room)
            continue
        make = (some_book, some_done_book, some_done_book)[at % 3]
        yield random, make(random, many=heads, jobs=random.randint(1, 2), most_room=room, fastest=random.choice([1, 2]))


def some_moments(random, heads, room):
    """A book of moments that are near one another in time, and away from the ends of the beam."""
    beam = small_beam(heads, room + 1, [(random.randint(0, 2), ()) for _ in range(heads)])
    return Book(beam, *[Job("pq"[k], "cut", Line(random.randint(-1, 1), random.randint(beam.left + 2, beam.right - 2)))
                        for k in range(random.randint(1, 2))])


def some_tick(random, book):
    """Some tick, often one of a job."""
    line = random.choice(book.jobs).line
    return random.choice([random.randint(-6, 6), line.first, line.last, random.choice(ticks_of(line))])


def slow_free(book, number, tick):
    """All places where the head is at this tick in some motion of some assignment."""
    first, last = window_of(book)
    first, last = min(first, tick), max(last, tick)
    return {places[number - 1] for numbers in SlowBook(book).assignments
            for places in possible_places(book, numbers, first, last)[tick]}


def runs(places):
    """The tuples (first, last) of all runs of neighbouring places."""
    return [(place, min(k for k in range(place, place + len(places) + 1) if k + 1 not in places))
            for place in sorted(places) if place - 1 not in places]


class TestBeside(ErrorCase):

    def test_against_all_ticks_of_the_job(self):
        found = []
        for random, book in some_books(741, 60):
            for job in book.jobs:
                ticks = [job.line.first - 3, job.line.first, job.line.last, job.line.last + 2]
                ticks.append(random.randint(job.line.first, job.line.last))
                for tick, number in itertools.product(ticks, numbers_of(book)):
                    for place in places_of(book, number):
                        wanted = slow_beside(book, number, tick, place, job.name)
                        self.same(beside(book, number, tick, place, job.name), wanted)
                        found.append((wanted[0] > wanted[1], wanted[0] > number, wanted[1] < number))
        self.assertGreaterEqual(len(set(found)), 5)

    def test_the_lower_the_place_the_greater_the_bounds(self):
        for random, book in some_books(742, 30):
            for job, number in itertools.product(book.jobs, numbers_of(book)):
                tick = random.randint(-6, 6)
                rows = [beside(book, number, tick, place, job.name) for place in places_of(book, number)]
                self.assertEqual(rows, list(zip(sorted([row[0] for row in rows], reverse=True),
                                                sorted([row[1] for row in rows], reverse=True))))

    def test_several_legs_and_changes(self):
        beam = Beam(0, 30, Head("a", 1, 1, ["cut"], 2, [(3, 0), (6, 1)]), Head("b", 1, 1, ["cut"], 1, [(5, 3)]),
                    Head("c", 1, 1, ["cut"], 0, [(2, 1), (4, 0), (8, 2)]))
        book = Book(beam, Job("x", "cut", Line(2, 10, [(2, 1), (3, -1), (2, 2)])))
        for number, tick in itertools.product((1, 2, 3), range(-2, 14)):
            for place in places_of(book, number):
                self.same(beside(book, number, tick, place, "x"), slow_beside(book, number, tick, place, "x"))

    def test_in_numbers(self):
        self.same([beside(BOOK, 1, 0, place, "x") for place in (1, 8, 9, 10, 11, 17)],
                  [(2, 2), (2, 2), (2, 1), (1, 1), (1, 0), (1, 0)])
        self.same([beside(BOOK, 2, 0, place, "x") for place in (3, 9, 10, 11, 12, 19)],
                  [(3, 2), (3, 2), (2, 2), (2, 1), (1, 1), (1, 1)])
        self.same([beside(BOOK, 1, tick, 9, "x") for tick in (-2, -1, 1, 2)], [(1, 2), (1, 2), (1, 2), (1, 2)])
        # Beside a job that the heads cannot do they are told as well.
        self.same(beside(BOOK.with_job(Job("z", "saw", Line(0, 99))), 1, 0, 9, "z"), (2, 2))

    def test_far(self):
        for random, book in some_books(743, 40):
            far = far_book(book, 10 ** 19, 10 ** 38)
            job, number, tick = random.choice(book.jobs), random.choice(numbers_of(book)), random.randint(-6, 6)
            for place in places_of(book, number):
                wanted = slow_beside(book, number, tick, place, job.name)
                self.same(beside(far, number, tick * 10 ** 19, place * 10 ** 38, job.name), wanted)
        self.same(beside(BOOK, 1, FAR, 1, "x"), (1, 2))
        self.same(beside(name="x", place=9, tick=0, number=1, book=BOOK), (2, 1))


class TestFreePlaces(ErrorCase):

    def test_against_all_motions_of_all_assignments(self):
        gaps = 0
        for random, book in some_books(751, 160):
            tick = some_tick(random, book)
            for number in numbers_of(book):
                wanted = slow_free(book, number, tick)
                found = free_places(book, number, tick)
                self.same(found, runs(wanted))
                gaps += len(found) > 1
        self.assertGreater(gaps, 25)

    def test_each_place_of_the_range(self):
        count = 0
        for random, book in some_books(752, 160):
            slow = SlowBook(book)
            tick, number = some_tick(random, book), random.choice(numbers_of(book))
            free = slow_free(book, number, tick)
            for place in places_of(book, number):
                bounds = {name: slow_beside(book, number, tick, place, name) for name in book.names()}
                chosen = [numbers for numbers in slow.assignments
                          if all(bounds[name][0] <= numbers[name] <= bounds[name][1] for name in numbers)]
                self.assertEqual(chosen != [], place in free)
                self.same(assignment_beside(book, number, tick, place), slow.least(chosen))
                chain = barring(book, number, tick, place)
                self.assertEqual(chain is None, place in free)
                if chain is not None:
                    self.assertIs(type(chain), list)
                    self.assertTrue(slow.is_chain(chain))
                    self.assertLessEqual(chain[0][1], bounds[chain[0][0]][0])
                    self.assertGreater(chain[-1][1], bounds[chain[-1][0]][1])
                    self.same(is_barring(book, number, tick, place, chain), True)
                    self.same(is_barring(book, number, tick, place, tuple(chain)), True)
                    count += len(chain) > 1
        self.assertGreater(count, 40)

    def test_least_and_greatest_free_place(self):
        random = Random(753)
        for _ in range(60):
            book = some_free_book(random)
            tick = random.randint(-9, 9)
            for number in numbers_of(book):
                found = free_places(book, number, tick)
                if found:
                    self.same((found[0][0], found[-1][1]),
                              (lowest_of_all(book, tick)[number - 1], highest_of_all(book, tick)[number - 1]))
                else:
                    self.assertEqual(SlowBook(book).assignments, [])

    def test_without_jobs_and_without_an_assignment(self):
        for tick in (-FAR, 0, FAR):
            self.same([free_places(EMPTY, number, tick) for number in (1, 2)], [[(1, 17)], [(3, 19)]])
            self.same([free_places(STUCK, number, tick) for number in (1, 2)], [[], []])
        self.same([assignment_beside(EMPTY, 1, 0, 9), barring(EMPTY, 1, 0, 9)], [{}, None])
        for place in range(1, 18):
            self.same(assignment_beside(STUCK, 1, 0, place), None)
            self.same(is_barring(STUCK, 1, 0, place, barring(STUCK, 1, 0, place)), True)
            self.same(is_barring(STUCK, 1, 0, place, [("x", 1), ("y", 3)]), True)

    def test_places_that_are_not_free_between_free_ones(self):
        beam = small_beam(3, 60, [(1, ())] * 3)
        book = Book(beam, Job("x", "cut", Line(0, 30)), Job("y", "cut", Line(0, 40)))
        self.same([free_places(book, number, 0) for number in (1, 2, 3)],
                  [[(-2, 28), (30, 30)], [(30, 30), (32, 38), (40, 40)], [(40, 40), (42, 62)]])
        self.same([free_places(book, number, 1) for number in (1, 2, 3)], [[(-2, 31)], [(29, 41)], [(39, 62)]])

    def test_far(self):
        for random, book in some_books(754, 40):
            far = far_book(book, 1, 10 ** 38)
            tick, number = some_tick(random, book), random.choice(numbers_of(book))
            least, greatest = far.beam.range_of(number)
            found = free_places(far, number, tick)
            for place in range(least, greatest + 1, 10 ** 38):
                self.assertEqual(any(first <= place <= last for first, last in found),
                                 barring(far, number, tick, place) is None)
            for (_, last), (first, _) in zip(found, found[1:]):
                self.assertGreater(first, last + 1)
            for place in {first for first, _ in found} | {last for _, last in found}:
                self.assertIsNotNone(assignment_beside(far, number, tick, place))
            for place in {first - 1 for first, _ in found} | {last + 1 for _, last in found}:
                if least <= place <= greatest:
                    self.assertIsNone(assignment_beside(far, number, tick, place))
        wide = Book(Beam(-FAR, FAR, *BEAM.heads), Job("x", "cut", Line(0, 10)))
        self.same(free_places(wide, 1, 7), [(1 - FAR, 17)])
        self.same(free_places(wide, 1, 0), [(1 - FAR, 8), (10, 10)])

    def test_new_lists_and_arguments_by_name(self):
        found = free_places(tick=0, number=1, book=BOOK)
        self.same(found, [(1, 8), (10, 10)])
        found.clear()
        self.same(free_places(BOOK, 1, 0), [(1, 8), (10, 10)])
        self.same(assignment_beside(place=10, tick=0, number=1, book=BOOK), {"x": 1})
        assignment_beside(BOOK, 1, 0, 10).clear()
        self.same(assignment_beside(BOOK, 1, 0, 10), {"x": 1})
        self.same(assignment_beside(BOOK, 1, 0, 8), {"x": 2})
        self.same(assignment_beside(BOOK, 1, 0, 9), None)
        chain = barring(place=9, tick=0, number=1, book=BOOK)
        self.same(is_barring(value=chain, place=9, tick=0, number=1, book=BOOK), True)
        chain.clear()
        self.assertNotEqual(barring(BOOK, 1, 0, 9), [])


class TestBarring(ErrorCase):

    def test_each_short_chain(self):
        told = []
        for random, book in some_books(761, 40):
            slow = SlowBook(book)
            tick, number = some_tick(random, book), random.choice(numbers_of(book))
            for place in places_of(book, number):
                bounds = {name: slow_beside(book, number, tick, place, name) for name in book.names()}
                for row in itertools.chain([[node] for node in slow.nodes], map(list, slow.links)):
                    wanted = row[0][1] <= bounds[row[0][0]][0] and row[-1][1] > bounds[row[-1][0]][1]
                    self.same(is_barring(book, number, tick, place, row), wanted)
                    told.append(wanted)
        self.assertGreater(told.count(True), 200)

    def test_chains_that_are_changed_at_one_place(self):
        told = []
        for random, book in some_books(762, 80):
            slow = SlowBook(book)
            tick, number = some_tick(random, book), random.choice(numbers_of(book))
            for place in places_of(book, number):
                chain = barring(book, number, tick, place)
                if chain is None:
                    continue
                bounds = {name: slow_beside(book, number, tick, place, name) for name in book.names()}
                for at in range(len(chain)):
                    node = random.choice(slow.nodes)
                    for row in (chain[:at] + [node] + chain[at + 1:], chain[:at] + [node] + chain[at:],
                                chain[:at] + chain[at + 1:], chain[at:], chain[:at + 1]):
                        wanted = (slow.is_chain(row) and row[0][1] <= bounds[row[0][0]][0]
                                  and row[-1][1] > bounds[row[-1][0]][1])
                        self.same(is_barring(book, number, tick, place, row), wanted)
                        told.append(wanted)
        self.assertGreater(min(told.count(True), told.count(False)), 100)

    def test_longer_chains(self):
        book = STUCK.without("y").with_job(Job("y", "cut", Line(0, 12)))
        self.same([beside(book, 1, 0, 9, name) for name in "xy"], [(2, 1), (2, 2)])
        self.same(is_barring(book, 1, 0, 9, [("x", 2)]), True)
        self.same(is_barring(book, 1, 0, 9, [("y", 2)]), False)
        self.same(is_barring(book, 1, 0, 9, [("x", 2), ("y", 3)]), True)
        self.same(is_barring(book, 1, 0, 9, [("x", 2), ("x", 1)]), False)
        self.same(is_barring(book, 1, 0, 9, [("x", 2), ("x", 1), ("y", 2)]), False)
        self.same(is_barring(book, 1, 0, 10, [("x", 2), ("y", 3)]), False)
        # To and fro between two nodes, as often as a chain may be long.
        book = Book(Beam(0, 20, small_head("a", kinds=["saw"]), small_head("b")), *BOOK.jobs)
        chain = [("x", 1), ("x", 2)] * 200
        self.same(is_barring(book, 1, 0, 9, chain), True)
        self.same(is_barring(book, 1, 0, 9, chain[:-1]), False)
        self.same(is_barring(book, 1, 0, 9, chain[1:]), True)
        self.same(is_barring(book, 1, 0, 9, [("x", 2)] + chain), False)

    def test_other_values(self):
        for value in NO_INTEGERS + [0, "ab", [], (), {}, ANYTHING, [None], ("x", 2), [["x", 2]], [("x", 2, 0)],
                                    [("x", True)], [("w", 2)], [("x", 2), ("x", 2)], {("x", 2): 1}, {("x", 2)},
                                    [("x", 4)], [("x", 0)], [("x", 1)], [("x", 3)]]:
            self.same(is_barring(BOOK, 1, 0, 9, value), False)
        self.same(is_barring(BOOK, 1, 0, 9, [("x", 2)]), True)
        self.same(is_barring(BOOK, 1, 0, 9, (("x", 2),)), True)


class TestWrong(ErrorCase):

    def test_numbers_and_ticks(self):
        for call, book in itertools.product(SPOTS + (lambda b, n, t, p: free_places(b, n, t),), (BOOK, STUCK, EMPTY)):
            for value in NO_INTEGERS + [0, 3, -1, FAR, "x"]:
                self.fails(UnknownNumber(value), call, book, value, 0, 9)
                self.fails(UnknownNumber(value), call, book, value, None, None)
            for value in NO_INTEGERS:
                self.fails(InvalidNumber(value), call, book, 1, value, 9)
                self.fails(InvalidNumber(value), call, book, 2, value, FAR)

    def test_places(self):
        for call, book in itertools.product(SPOTS, (BOOK, STUCK)):
            for value in NO_INTEGERS:
                self.fails(InvalidNumber(value), call, book, 1, 0, value)
            for number, places in [(1, (0, 18, -FAR, FAR)), (2, (2, 20, -1))]:
                for value in places:
                    self.fails(OutOfRange(value), call, book, number, 0, value)
            for number, places in [(1, (1, 17)), (2, (3, 19))]:
                for value in places:
                    call(book, number, 0, value)

    def test_names(self):
        for book in (BOOK, STUCK, EMPTY):
            for value in NO_NAMES + ["w", "a", "cut", ("x", 1)]:
                self.fails(UnknownJob(value), beside, book, 1, 0, 9, value)
                self.fails(OutOfRange(18), beside, book, 1, 0, 18, value)
                self.fails(InvalidNumber(None), beside, book, 1, 0, None, value)
        self.fails(UnknownJob("x"), beside, EMPTY, 1, 0, 9, "x")

    def test_changed_books(self):
        for random, book in some_books(771, 30):
            tick, number = some_tick(random, book), random.choice(numbers_of(book))
            wanted = free_places(book, number, tick)
            self.same(free_places(book.later(FAR), number, tick + FAR), wanted)
            self.same(free_places(book.backward(), number, -tick), wanted)
            self.same(free_places(book.moved(-7), number, tick), [(first - 7, last - 7) for first, last in wanted])
            self.same(free_places(book.mirrored(), len(book.beam) + 1 - number, tick),
                      [(-last, -first) for first, last in wanted[::-1]])
            self.same(free_places(book, number, tick), wanted)


if __name__ == "__main__":
    unittest.main()
