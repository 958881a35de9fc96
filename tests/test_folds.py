from random import Random
import unittest

from beamheads.beams import Beam
from beamheads.errors import InvalidAssignment, InvalidNumber
from beamheads.folds import (greatest_repeated, highest_in_turns, is_repeated, is_turn_refusal, least_repeated,
                             lowest_in_turns, turn_refusal)
from beamheads.heads import Head
from beamheads.jobs import Job
from beamheads.lines import Line
from beamheads.turnbooks import TurnBook
from tests.helpers import ANYTHING, FAR, NO_INTEGERS, ErrorCase, small_beam
from tests.slow_turns import (SlowTurns, TurnBeam, copied, greatest_of, least_of, places_in_turns, slow_repeated,
                              slow_windows, some_done_turn_book, some_turn_book)
from tests.test_turnlinks import far_book

BEAM = Beam(0, 20, Head("a", 1, 1, ["cut"], 2, [(5, 0)]), Head("b", 1, 1, ["cut", "saw"], 1))
BOOK = TurnBook(BEAM, 7, Job("x", "cut", Line(0, 10)), Job("y", "saw", Line(3, 9, [(2, 1)])))
STUCK = TurnBook(BEAM, 7, Job("y", "saw", Line(3, 12, [(1, 1), (6, 0)])))
EMPTY = TurnBook(BEAM, 7)


def some_books(seed, many):
    random = Random(seed)
    for at in range(many):
        make = (some_turn_book, some_done_turn_book, some_done_turn_book)[at % 3]
        yield random, make(random, jobs=random.randint(1, 3))


def doubled(book):
    """The same jobs and speeds in a book of the double period, with two copies of each job; None if it cannot be."""
    period = book.period
    heads = []
    for head in book.beam.heads:
        changes = [*head.changes, (period, head.speed)]
        if not head.changes or head.changes[0][0] != 0:
            changes += [(tick + period, speed) for tick, speed in head.changes]
        else:
            changes = [*head.changes] + [(tick + period, speed) for tick, speed in head.changes]
        kept, speed = [], head.speed
        for tick, following in changes:
            if following != speed:
                kept.append((tick, following))
            speed = following
        if len(kept) > 3:
            return None
        heads.append(Head(head.name, head.left, head.right, head.kinds, head.speed, kept))
    jobs = [Job(job.name + more, job.kind, job.line.later(period * at))
            for job in book.jobs for at, more in enumerate("ab")]
    if len(jobs) > 5:
        return None
    return TurnBook(Beam(book.beam.left, book.beam.right, *heads), 2 * period, *jobs)


def mirrored(book):
    return TurnBook(book.beam.mirrored(), book.period, *[job.mirrored() for job in book.jobs])


def turned(book, numbers):
    return {name: len(book.beam) + 1 - numbers[name] for name in numbers}


class TestRepeated(ErrorCase):

    def test_against_all_dicts_and_copies_some_turns_apart(self):
        found = []
        for _, book in some_books(831, 200):
            slow = SlowTurns(book, 4)
            right = slow_repeated(slow)
            for numbers in slow.all_dicts:
                self.same(is_repeated(book, numbers), numbers in right)
            self.same(least_repeated(book), least_of(right, slow.names))
            self.same(greatest_repeated(book), greatest_of(right, slow.names))
            found.append(min(len(right), 2))
        self.assertGreater(min(found.count(many) for many in (0, 1, 2)), 10)

    def test_heads_with_kinds(self):
        random = Random(832)
        for _ in range(80):
            book = some_turn_book(random, jobs=random.randint(1, 3), kinds=("cut", "saw"))
            slow = SlowTurns(book, 3)
            right = slow_repeated(slow)
            self.same(least_repeated(book), least_of(right, slow.names))
            self.same(greatest_repeated(book), greatest_of(right, slow.names))

    def test_copies_two_turns_apart(self):
        # All copies that are at most one turn apart are compatible, and some that are two turns apart are not.
        books = [
            (TurnBook(Beam(0, 12, Head("a", 1, 1, ["cut"], 2, [(1, 0)]), Head("b", 1, 1, ["cut"], 2, [(1, 1)])), 5,
                      Job("p", "cut", Line(4, 6, [(2, -1)])), Job("q", "cut", Line(0, 3))), {"p": 2, "q": 1}),
            (TurnBook(Beam(0, 12, Head("a", 1, 1, ["cut"], 2), Head("b", 1, 1, ["cut"], 3, [(1, 0)]),
                           Head("c", 1, 1, ["cut"], 4, [(1, 1)])), 3,
                      Job("p", "cut", Line(2, 3, [(2, 1)])), Job("q", "cut", Line(0, 8))), {"p": 1, "q": 3})]
        for book, numbers in books + [(mirrored(book), turned(book, numbers)) for book, numbers in books]:
            # The other heads do other kinds.
            heads = [head if number in numbers.values() else Head(head.name, 1, 1, ["saw"], head.speed, head.changes)
                     for number, head in enumerate(book.beam.heads, 1)]
            for beam in (book.beam, Beam(book.beam.left, book.beam.right, *heads)):
                book = TurnBook(beam, book.period, *book.jobs)
                self.assertIn(numbers, slow_repeated(SlowTurns(book, 1)))
                slow = SlowTurns(book, 4)
                right = slow_repeated(slow)
                self.same(is_repeated(book, numbers), False)
                self.same(least_repeated(book), least_of(right, slow.names))
                self.same(greatest_repeated(book), greatest_of(right, slow.names))
                self.assertEqual(turn_refusal(book) is None, right != [])
                self.assertTrue(right or slow.is_refusal(turn_refusal(book)))

    def test_in_numbers(self):
        self.same([least_repeated(BOOK), greatest_repeated(BOOK)], [{"x": 2, "y": 2}] * 2)
        self.same([is_repeated(BOOK, {"x": x, "y": y}) for x in (1, 2) for y in (1, 2)], [False, False, False, True])
        self.same([least_repeated(STUCK), greatest_repeated(STUCK)], [None, None])
        one = BOOK.without("y")
        self.same([least_repeated(one), greatest_repeated(one)], [{"x": 1}, {"x": 2}])
        self.same([least_repeated(book=EMPTY), greatest_repeated(book=EMPTY), is_repeated(EMPTY, {})], [{}, {}, True])

    def test_the_sequence_of_the_keys_has_no_effect(self):
        self.same(is_repeated(value={"y": 2, "x": 2}, book=BOOK), True)
        for function in (least_repeated, greatest_repeated):
            found = function(BOOK)
            self.assertEqual(list(found), ["x", "y"])
            found.clear()
            self.same(function(book=BOOK), {"x": 2, "y": 2})

    def test_a_book_of_the_double_period(self):
        many = 0
        for _, book in some_books(833, 200):
            double = doubled(book)
            if double is None:
                continue
            self.assertEqual(least_repeated(double) is None, least_repeated(book) is None)
            for find in (least_repeated, greatest_repeated):
                numbers = find(book)
                if numbers is not None:
                    twice = {name + more: numbers[name] for name in numbers for more in "ab"}
                    self.same(is_repeated(double, twice), True)
                    many += 1
            least = least_repeated(double)
            if least is not None:
                numbers = {name: min(least[name + "a"], least[name + "b"]) for name in book.names()}
                self.same(numbers, least_repeated(book))
        self.assertGreater(many, 60)

    def test_far(self):
        for _, book in some_books(834, 60):
            far = far_book(book, 10 ** 19, 10 ** 38)
            self.same([least_repeated(far), greatest_repeated(far)], [least_repeated(book), greatest_repeated(book)])
            self.assertEqual(turn_refusal(far) is None, turn_refusal(book) is None)

    def test_other_values(self):
        for value in NO_INTEGERS + [0, "xy", {"x": 2}, {"x": 2, "y": 3}, {"x": 0, "y": 2}, {"x": True, "y": 2},
                                    {"x": 2, "y": None}, {"x": 2, "y": 2, "z": 2}, {"x": 2, "z": 2}, [("x", 2), ("y", 2)],
                                    {"x", "y"}, {1: 2, 2: 2}, {"x": 2, "y": ANYTHING}, {"x": 2, ANYTHING: 2}]:
            self.same(is_repeated(BOOK, value), False)
            self.fails(InvalidAssignment(value), lowest_in_turns, BOOK, value, 0)
            self.fails(InvalidAssignment(value), highest_in_turns, BOOK, value, None)


class TestRefusals(ErrorCase):

    def test_exactly_where_there_is_no_repeated_assignment(self):
        lengths = []
        for _, book in some_books(841, 240):
            slow = SlowTurns(book, 3)
            right = slow_repeated(slow)
            found = turn_refusal(book)
            self.assertEqual(found is None, right != [])
            if found is not None:
                self.assertIs(type(found), list)
                self.assertTrue(slow.is_refusal(found))
                self.same(is_turn_refusal(book, found), True)
                self.same(is_turn_refusal(book, tuple(found)), True)
                lengths.append((len(found), len({turn for _, _, turn in found})))
        self.assertGreater(len(lengths), 60)
        self.assertGreater(max(length for length, _ in lengths), 4)
        self.assertGreater(max(turns for _, turns in lengths), 2)

    def test_the_turns_of_a_refusal_cannot_be_done_with_whatever_heads(self):
        count = 0
        for _, book in some_books(842, 150):
            found = turn_refusal(book)
            if found is None:
                continue
            turns = [turn for _, _, turn in found]
            many = max(turns) - min(turns) + 1
            slow = SlowTurns(book, 2)
            if len(slow.all_dicts) ** many > 5000:
                continue
            self.assertEqual(slow_windows(slow, many), [])
            count += many > 1
        self.assertGreater(count, 15)

    def test_chains_that_are_changed_at_one_place(self):
        told = []
        for random, book in some_books(843, 100):
            slow = SlowTurns(book, 3)
            row = turn_refusal(book)
            if row is None:
                continue
            shifted = [(name, number, turn - FAR) for name, number, turn in row]
            self.same(is_turn_refusal(book, shifted), True)
            for at in range(len(row)):
                name, number, turn = row[at]
                for changed in [(name, number + 1, turn), (name, number - 1, turn), (name, number, turn + 1),
                                (name, number, turn - 1)]:
                    for value in (row[:at] + [changed] + row[at + 1:], row[:at] + [changed] + row[at:],
                                  row[:at] + row[at + 1:], row[at:], row[:at + 1]):
                        self.same(is_turn_refusal(book, value), slow.is_refusal(value))
                        told.append(slow.is_refusal(value))
        self.assertGreater(min(told.count(True), told.count(False)), 60)

    def test_in_numbers(self):
        self.same(is_turn_refusal(STUCK, [("y", 1, 5), ("y", 2, 5), ("y", 3, 6)]), True)
        self.same(is_turn_refusal(STUCK, [("y", 1, 5), ("y", 3, 6)]), True)
        self.same(is_turn_refusal(STUCK, [("y", 1, 5), ("y", 3, 4)]), True)
        self.same(is_turn_refusal(STUCK, [("y", 2, 5), ("y", 3, 6)]), False)
        self.same(is_turn_refusal(STUCK, [("y", 1, 5), ("y", 2, 5)]), False)
        self.same(is_turn_refusal(STUCK, [("y", 1, 5), ("y", 3, 7)]), False)
        self.same(is_turn_refusal(STUCK, [("y", 1, 5)]), False)
        self.same([turn_refusal(BOOK), turn_refusal(EMPTY)], [None, None])
        row = [("y", 1, 0), ("y", 2, 0)] * 199
        self.same(is_turn_refusal(STUCK, row + [("y", 1, 0), ("y", 3, 1)]), True)
        self.same(is_turn_refusal(STUCK, row + [("y", 1, 0), ("y", 2, 0), ("y", 3, 1)]), False)

    def test_other_values(self):
        for value in NO_INTEGERS + [0, "ab", [], (), {}, ANYTHING, [None], [("y", 1), ("y", 3)], [("y", 1, 0), None],
                                    [["y", 1, 0], ["y", 3, 1]], [("y", True, 0), ("y", 3, 1)], [("y", 1, 0), ("y", 3, True)],
                                    {("y", 1, 0): 1, ("y", 3, 1): 2}, [("w", 1, 0), ("w", 3, 1)]]:
            self.same(is_turn_refusal(STUCK, value), False)
        found = turn_refusal(book=STUCK)
        self.same(is_turn_refusal(value=found, book=STUCK), True)
        found.clear()
        self.same(is_turn_refusal(STUCK, turn_refusal(STUCK)), True)


class TestPlaces(ErrorCase):

    def test_against_all_motions_tick_by_tick(self):
        checked = 0
        random = Random(851)
        for _ in range(90):
            book = some_done_turn_book(random, heads=random.randint(1, 2), most_room=random.choice([2, 5]),
                                       fastest=random.choice([1, 2]))
            for numbers in slow_repeated(SlowTurns(book, 2))[:2]:
                self.check_places(book, numbers)
                checked += 1
        self.assertGreater(checked, 50)

    def test_what_the_copies_near_a_tick_bind(self):
        # At a tick within a line the copy before it binds as well: the other head is slower, or comes from further.
        books = [
            (TurnBook(Beam(0, 12, Head("a", 1, 1, ["cut"], 1, [(3, 3), (4, 2)]), Head("b", 1, 1, ["cut"], 3)), 5,
                      Job("p", "cut", Line(2, 9, [(3, -2)]))), {"p": 2}),
            (TurnBook(Beam(0, 12, Head("a", 1, 1, ["cut"], 3), Head("b", 1, 1, ["cut"], 2, [(1, 0)]),
                           Head("c", 1, 1, ["cut"], 0, [(1, 4)])), 2,
                      Job("p", "cut", Line(0, 11)), Job("q", "cut", Line(0, 6, [(1, 1)]))), {"p": 3, "q": 1})]
        for book, numbers in books + [(mirrored(book), turned(book, numbers)) for book, numbers in books]:
            self.check_places(book, numbers)

    def check_places(self, book, numbers):
        """The lowest and highest places of two turns, against all motions of some more turns."""
        possible = places_in_turns(book, numbers, -4 * book.period - 9, 5 * book.period + 9)
        for tick in range(0, 2 * book.period):
            columns = list(zip(*possible[tick]))
            self.same(lowest_in_turns(book, numbers, tick), tuple(map(min, columns)))
            self.same(highest_in_turns(book, numbers, tick), tuple(map(max, columns)))

    def test_the_rows_are_a_motion(self):
        random = Random(852)
        for _ in range(80):
            book = some_done_turn_book(random, most_room=random.choice([3, 8]))
            beam = TurnBeam(book)
            for numbers in slow_repeated(SlowTurns(book, 2))[:2]:
                for places in (lowest_in_turns, highest_in_turns):
                    rows = [places(book, numbers, tick) for tick in range(-book.period, book.period + 1)]
                    for tick, row in enumerate(rows, -book.period):
                        self.assertTrue(book.beam.are_right(row))
                        for name in numbers:
                            for turn in (-3, -2, -1, 0, 1):
                                if tick in copied(book, name, turn):
                                    self.assertEqual(row[numbers[name] - 1], copied(book, name, turn)[tick])
                    for tick, (row, following) in enumerate(zip(rows, rows[1:]), -book.period):
                        for number, (old, new) in enumerate(zip(row, following), 1):
                            self.assertLessEqual(abs(new - old), beam.speed_at(number, tick))
                    # Many turns later all is the same again.
                    for tick in range(book.period):
                        for turns in (1, 10 ** 12, -FAR):
                            self.same(places(book, numbers, tick + turns * book.period),
                                      places(book, numbers, tick))

    def test_in_numbers(self):
        one = BOOK.without("y")
        # Head 1 moves by 2 in the steps 0 to 4 of each turn, and then stands; head 2 moves by 1 in each step.
        self.same([lowest_in_turns(one, {"x": 1}, tick) for tick in range(8)],
                  [(10, 12), (8, 11), (6, 10), (6, 10), (8, 11), (10, 12), (10, 12), (10, 12)])
        self.same([highest_in_turns(one, {"x": 2}, tick) for tick in (0, 1, 3, 4, 7 * FAR, 7 * FAR + 1)],
                  [(8, 10), (9, 11), (11, 13), (10, 13), (8, 10), (9, 11)])
        self.same([lowest_in_turns(EMPTY, {}, tick) for tick in (-FAR, 0, FAR)], [(1, 3)] * 3)
        self.same([highest_in_turns(EMPTY, {}, tick) for tick in (-FAR, 0, FAR)], [(17, 19)] * 3)
        self.same(lowest_in_turns(tick=0, assignment={"x": 1}, book=one), (10, 12))
        self.same(highest_in_turns(tick=0, assignment={"x": 1}, book=one), (10, 19))

    def test_far(self):
        random = Random(853)
        for _ in range(40):
            book = some_done_turn_book(random)
            numbers = least_repeated(book)
            if numbers is None:
                continue
            far = far_book(book, 10 ** 19, 10 ** 38)
            for tick in range(-2, 6):
                for places in (lowest_in_turns, highest_in_turns):
                    self.same(places(far, numbers, tick * 10 ** 19),
                              tuple(place * 10 ** 38 for place in places(book, numbers, tick)))

    def test_wrong_ticks(self):
        for value in NO_INTEGERS:
            for function in (lowest_in_turns, highest_in_turns):
                self.fails(InvalidNumber(value), function, BOOK, {"x": 2, "y": 2}, value)
        for function in (lowest_in_turns, highest_in_turns):
            self.fails(InvalidAssignment({"x": 1, "y": 2}), function, BOOK, {"x": 1, "y": 2}, 0)
            self.fails(InvalidAssignment({"y": 2}), function, STUCK, {"y": 2}, 0)

    def test_what_was_passed_is_not_changed(self):
        numbers = {"y": 2, "x": 2}
        before = repr((BOOK, numbers))
        self.same(lowest_in_turns(BOOK, numbers, 3), lowest_in_turns(BOOK, numbers, 3))
        self.assertEqual(repr((BOOK, numbers)), before)
        still = TurnBook(small_beam(1, 9, [(0, ())]), 1, Job("x", "cut", Line(0, 3)))
        self.same([lowest_in_turns(still, {"x": 1}, tick) for tick in (-FAR, 0, 1)], [(3,)] * 3)


if __name__ == "__main__":
    unittest.main()
