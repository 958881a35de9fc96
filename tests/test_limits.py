from random import Random
import unittest

from beamheads.assignments import least_assignment
from beamheads.beams import Beam
from beamheads.books import Book
from beamheads.errors import BeamTooShort, InvalidNumber, NoAssignment
from beamheads.heads import Head
from beamheads.jobs import Job
from beamheads.limits import least_speed, spare_room
from beamheads.lines import Line
from tests.helpers import FAR, NO_POSITIVES, ErrorCase, small_beam
from tests.slow import SlowBook, some_book, some_done_book, some_free_book
from tests.test_pairs import far_book

BEAM = Beam(0, 20, Head("a", 1, 1, ["cut"], 1), Head("b", 1, 1, ["cut"], 1))
BOOK = Book(BEAM, Job("x", "cut", Line(0, 2)), Job("y", "cut", Line(3, 17)))
STUCK = Book(BEAM, Job("x", "cut", Line(0, 10)), Job("y", "cut", Line(0, 11)))
EMPTY = Book(BEAM)


def some_books(seed, many):
    random = Random(seed)
    for at in range(many):
        make = (some_book, some_done_book, some_free_book)[at % 3]
        yield random, make(random, jobs=random.randint(1, 3))


def can_be_done(book):
    return SlowBook(book).assignments != []


class TestLeastSpeed(ErrorCase):

    def test_against_all_assignments(self):
        found = []
        for random, book in some_books(721, 150):
            parts = random.choice([1, 1, 2, 3])
            speed = least_speed(book, parts=parts)
            found.append(speed)
            if speed is None:
                # At this speed each step of a head that moves is longer than its range.
                for fast in (0, 1, 2, 5, book.beam.room * parts + 1, FAR):
                    self.assertFalse(can_be_done(book.scaled(parts=parts, speed=fast)))
                continue
            self.assertIs(type(speed), int)
            self.assertTrue(can_be_done(book.scaled(parts=parts, speed=speed)))
            self.assertTrue(can_be_done(book.scaled(parts=parts, speed=speed + random.randint(1, 3))))
            self.assertTrue(speed == 0 or not can_be_done(book.scaled(parts=parts, speed=speed - 1)))
        self.assertEqual({None, 0, 1, 2} - set(found), set())

    def test_in_numbers(self):
        # Two heads do it standing, and one head has to move over 13 places.
        self.same([least_speed(BOOK), least_speed(BOOK, parts=7), least_speed(EMPTY)], [0, 0, 0])
        one = Book(small_beam(1, 20), Job("x", "cut", Line(0, 0)), Job("y", "cut", Line(3, 13)))
        self.same([least_speed(one, parts=parts) for parts in (1, 2, 3, 4)], [5, 9, 13, 18])
        self.same(least_speed(one.wider(5), parts=FAR), 13 * FAR // 3 + 1)
        fast = Book(small_beam(1, 20, [(4, ())]), *one.jobs)
        self.same([least_speed(fast), least_speed(fast, parts=4)], [2, 5])

    def test_one_part_less_than_the_whole_room(self):
        one = Book(small_beam(1, 20), Job("x", "cut", Line(0, -2)), Job("y", "cut", Line(1, 18)))
        self.same([least_speed(one), least_speed(one, parts=9)], [20, 180])

    def test_heads_that_stand(self):
        beam = small_beam(1, 20, [(0, [(5, 1)])])
        book = Book(beam, Job("x", "cut", Line(0, 3)), Job("y", "cut", Line(5, 4)))
        self.same(least_speed(book), None)
        self.same(least_speed(book.without("y").with_job(Job("y", "cut", Line(6, 4)))), 1)
        self.same(least_speed(STUCK), None)
        self.same(least_speed(Book(BEAM, Job("x", "saw", Line(0, 9)))), None)
        self.same(least_speed(Book(BEAM, Job("x", "cut", Line(0, FAR)))), None)
        self.same(least_speed(Book(BEAM, Job("x", "cut", Line(0, 9, [(1, 5)])))), 5)

    def test_far(self):
        for random, book in some_books(722, 45):
            far = far_book(book, 1, 10 ** 38)
            speed = least_speed(far)
            if speed is None:
                self.same(least_speed(book), None)
                continue
            self.assertIsNotNone(least_assignment(far.scaled(speed=speed)))
            self.assertTrue(speed == 0 or least_assignment(far.scaled(speed=speed - 1)) is None)
        beam = Beam(0, FAR, Head("a", 1, 1, ["cut"], 1))
        book = Book(beam, Job("x", "cut", Line(-7, 1)), Job("y", "cut", Line(0, FAR - 1)))
        self.same(least_speed(book, parts=FAR), -(-(FAR - 2) * FAR // 7))

    def test_parts(self):
        for value in NO_POSITIVES:
            for book in (BOOK, STUCK, EMPTY):
                self.fails(InvalidNumber(value), least_speed, book, parts=value)
        self.same(least_speed(parts=1, book=BOOK), 0)
        self.assertRaises(TypeError, least_speed, BOOK, 1)


class TestSpareRoom(ErrorCase):

    def test_against_all_assignments(self):
        found = []
        for random, book in some_books(731, 150):
            if not can_be_done(book):
                self.fails(NoAssignment(), spare_room, book)
                continue
            spare = spare_room(book)
            found.append(spare)
            self.assertIs(type(spare), int)
            self.assertTrue(can_be_done(book.wider(spare)))
            self.assertTrue(can_be_done(book.wider(random.randint(0, spare))))
            if book.beam.room < (spare + 1) * len(book.beam):
                self.assertRaises(BeamTooShort, book.wider, spare + 1)
                found.append("short")
            else:
                self.assertFalse(can_be_done(book.wider(spare + 1)))
        self.assertEqual({0, 1, 2, "short"} - set(found), set())

    def test_in_numbers(self):
        self.same(spare_room(EMPTY), 8)
        self.same(spare_room(Book(BEAM, Job("x", "cut", Line(0, 10)), Job("y", "cut", Line(0, 15)))), 3)
        self.same(spare_room(Book(BEAM, Job("x", "cut", Line(0, 10)), Job("y", "cut", Line(0, 12)))), 0)
        self.same(spare_room(BOOK), 2)
        far = Book(Beam(-FAR, FAR, Head("a", 1, 1, ["cut"], 0), Head("b", 1, 1, ["cut"], 0)),
                   Job("x", "cut", Line(0, -5)), Job("y", "cut", Line(0, FAR // 2)))
        self.same(spare_room(far), FAR // 2 - 1)
        self.same(spare_room(Book(far.beam)), FAR - 2)

    def test_without_an_assignment(self):
        self.fails(NoAssignment(), spare_room, STUCK)
        self.fails(NoAssignment(), spare_room, book=STUCK)
        self.same(spare_room(book=EMPTY), 8)

    def test_changed_books(self):
        for random, book in some_books(732, 30):
            if least_assignment(book) is None:
                continue
            wanted = spare_room(book)
            for changed in (book.later(-FAR), book.moved(9), book.backward()):
                self.same(spare_room(changed), wanted)
                self.same(least_speed(changed), least_speed(book))
            for more in {0, min(1, wanted), wanted}:
                self.same(spare_room(book.wider(more)), wanted - more)
            self.same(spare_room(book.scaled(parts=3, speed=3)) // 3, wanted)
            self.same(least_speed(book.mirrored()), least_speed(book))


if __name__ == "__main__":
    unittest.main()
