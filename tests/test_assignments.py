import itertools
from random import Random
import unittest

from beamheads.assignments import greatest_assignment, is_assignment, is_refusal, least_assignment, refusal
from beamheads.beams import Beam
from beamheads.books import Book
from beamheads.heads import Head
from beamheads.jobs import Job
from beamheads.lines import Line
from beamheads.links import is_chain, link_word
from tests.helpers import ANYTHING, FAR, NO_INTEGERS, ErrorCase, small_beam, small_head
from tests.slow import SlowBook, has_motion, numbers_of, some_book, some_done_book, some_free_book
from tests.test_pairs import far_book

BEAM = Beam(0, 20, Head("a", 1, 1, ["cut"], 2), Head("b", 1, 1, ["cut", "saw"], 1))
BOOK = Book(BEAM, Job("x", "cut", Line(0, 10)), Job("y", "saw", Line(3, 9, [(2, 1)])))
STUCK = Book(BEAM, Job("x", "cut", Line(0, 10)), Job("y", "cut", Line(0, 11)))
EMPTY = Book(BEAM)
NOBODY = Book(BEAM, Job("x", "paint", Line(0, 10)))


def some_books(seed, many):
    random = Random(seed)
    for at in range(many):
        make = (some_book, some_done_book, some_done_book, some_free_book, some_free_book)[at % 5]
        yield make(random)


class TestAssignments(ErrorCase):

    def test_all_dicts_against_the_pairs(self):
        found = []
        for book in some_books(511, 100):
            slow = SlowBook(book)
            for numbers in slow.all_dicts:
                wanted = numbers in slow.assignments
                self.same(is_assignment(book, numbers), wanted)
                found.append(wanted)
        self.assertGreater(min(found.count(True), found.count(False)), 200)

    def test_all_dicts_against_all_motions(self):
        random = Random(512)
        found = []
        for at in range(50):
            book = (some_book if at % 4 == 0 else some_done_book)(random, kinds=("cut", "saw"), most_room=3)
            for numbers in SlowBook(book).all_dicts:
                done = [book.beam.head(numbers[job.name]).does(job.kind) for job in book.jobs]
                crowded = [pair for pair in itertools.combinations(book.names(), 2)
                           if numbers[pair[0]] == numbers[pair[1]] and book.shared(*pair)
                           and book.shared(*pair)[0] < book.shared(*pair)[1]]
                wanted = all(done) and not crowded and has_motion(book, numbers)
                self.same(is_assignment(book, numbers), wanted)
                found.append(wanted)
        self.assertGreater(min(found.count(True), found.count(False)), 40)

    def test_the_book_of_the_document(self):
        beam = Beam(-20, 40, small_head("a"), small_head("b"))
        book = Book(beam, Job("x", "cut", Line(0, 10)), Job("y", "cut", Line(0, 12)))
        self.same([least_assignment(book), greatest_assignment(book)], [{"x": 1, "y": 2}] * 2)
        book = Book(beam, Job("x", "cut", Line(0, 10)), Job("y", "cut", Line(0, 11)))
        self.same([least_assignment(book), greatest_assignment(book)], [None, None])

    def test_without_jobs(self):
        self.same([least_assignment(EMPTY), greatest_assignment(EMPTY), refusal(EMPTY)], [{}, {}, None])
        self.same([is_assignment(EMPTY, {}), is_assignment(EMPTY, {"x": 1})], [True, False])
        self.same([is_refusal(EMPTY, []), is_refusal(EMPTY, [("x", 1), ("x", 3)])], [False, False])

    def test_other_values(self):
        for value in NO_INTEGERS + [0, "xy", [("x", 1), ("y", 2)], (("x", 1), ("y", 2)), ["x", "y"], {"x", "y"},
                                    {"x": 1}, {"y": 2}, {"x": 1, "y": 2, "z": 1}, {"x": 1, "z": 2}, {"x": 1, "Y": 2},
                                    {"x": 1, 2: 2}, {"x": 1, ("y",): 2}, {"x": 1, None: 2}, {"x": 1, b"y": 2},
                                    {"x": 1, ANYTHING: 2}, {1: "x", 2: "y"}, [{"x": 1, "y": 2}]]:
            self.same(is_assignment(BOOK, value), False)
        for value in NO_INTEGERS + [0, 3, -1, FAR, "a", "b"]:
            self.same(is_assignment(BOOK, {"x": value, "y": 2}), False)
            self.same(is_assignment(BOOK, {"x": 1, "y": value}), False)
        self.same([is_assignment(BOOK, {"x": i, "y": j}) for i, j in itertools.product((1, 2), repeat=2)],
                  [False, True, False, True])

    def test_the_sequence_of_the_keys_has_no_effect(self):
        self.same(is_assignment(BOOK, {"y": 2, "x": 1}), True)
        self.same(is_assignment(value={"y": 2, "x": 1}, book=BOOK), True)


class TestLeastAndGreatest(ErrorCase):

    def test_against_all_dicts(self):
        many = []
        for book in some_books(521, 100):
            slow = SlowBook(book)
            self.same(least_assignment(book), slow.least())
            self.same(greatest_assignment(book), slow.greatest())
            many.append(min(len(slow.assignments), 2))
        self.assertGreater(min(many.count(k) for k in (0, 1, 2)), 10)

    def test_beams_with_five_heads(self):
        random = Random(522)
        for _ in range(6):
            slow = SlowBook(some_free_book(random, many=5, jobs=3))
            self.same(least_assignment(slow.book), slow.least())
            self.same(greatest_assignment(slow.book), slow.greatest())

    def test_eight_jobs(self):
        beam = small_beam(5, 40, [(1, [(50, 9)])] * 5)
        book = Book(beam, *[Job(name, "cut", Line(0, 10 + 2 * at)) for at, name in enumerate("edcba")])
        self.same(least_assignment(book), {"a": 5, "b": 4, "c": 3, "d": 2, "e": 1})
        self.same(greatest_assignment(book), least_assignment(book))
        more = book.with_job(Job("z", "cut", Line(90, 12))).with_job(Job("aa", "cut", Line(15, 30)))
        more = more.with_job(Job("ab", "cut", Line(20, 35)))
        self.same(least_assignment(more), {"a": 5, "aa": 4, "ab": 4, "b": 4, "c": 3, "d": 2, "e": 1, "z": 1})
        self.same(is_assignment(more, greatest_assignment(more)), True)

    def test_sorted_and_new(self):
        book = Book(BEAM, BOOK.job("y"), BOOK.job("x"))
        for found in (least_assignment(book), greatest_assignment(book)):
            self.assertEqual(list(found), ["x", "y"])
            found.clear()
        self.same([least_assignment(book), greatest_assignment(book=book)], [{"x": 1, "y": 2}, {"x": 2, "y": 2}])

    def test_one_head(self):
        book = Book(small_beam(1, 9), Job("x", "cut", Line(0, 0)), Job("y", "cut", Line(4, 4)))
        self.same([least_assignment(book), greatest_assignment(book)], [{"x": 1, "y": 1}] * 2)
        self.same(least_assignment(book.with_job(Job("z", "cut", Line(3, 4)))), None)
        self.same(least_assignment(book.with_job(Job("z", "cut", Line(3, 3)))), {"x": 1, "y": 1, "z": 1})


class TestRefusals(ErrorCase):

    def test_exactly_if_there_is_no_assignment(self):
        lengths = []
        for book in some_books(531, 150):
            slow = SlowBook(book)
            found = refusal(book)
            self.assertEqual(found is None, bool(slow.assignments))
            if found is not None:
                self.assertIs(type(found), list)
                self.assertTrue(slow.is_chain(found))
                self.assertEqual((found[0][1], found[-1][1]), (1, slow.many + 1))
                self.same(is_refusal(book, found), True)
                self.same(is_refusal(book, tuple(found)), True)
                lengths.append(len(found))
            else:
                for name in book.names():
                    self.same(is_refusal(book, [(name, k) for k in range(1, slow.many + 2)]), False)
        self.assertTrue({2, 3, 4} <= set(lengths))

    def test_each_chain_from_one_to_beyond_is_accepted(self):
        random = Random(532)
        for book in some_books(533, 60):
            slow = SlowBook(book)
            for node, following in itertools.product(slow.nodes, repeat=2):
                row = [node, following]
                wanted = (node, following) in slow.links and node[1] == 1 and following[1] == slow.many + 1
                self.same(is_refusal(book, row), wanted)
            found = refusal(book)
            if found is None:
                continue
            for at in range(len(found)):
                without = found[:at] + found[at + 1:]
                changed = found[:at] + [random.choice(slow.nodes)] + found[at + 1:]
                for row in (without, changed, found[:at], found[at:]):
                    self.same(is_refusal(book, row),
                              slow.is_chain(row) and row[0][1] == 1 and row[-1][1] == slow.many + 1)

    def test_longer_chains(self):
        row = [("x", 1), ("y", 2), ("y", 1), ("x", 2), ("y", 3)]
        book = Book(BEAM, Job("x", "cut", Line(0, 10)), Job("y", "cut", Line(0, 11)))
        self.same(is_chain(book, row), True)
        self.same(is_refusal(book, row), True)
        self.same(is_refusal(value=row[:4], book=book), False)
        self.same(is_refusal(book, row[1:]), False)
        self.same(is_refusal(book, [("x", 1), ("y", 2), ("y", 1)] + [("x", 2), ("y", 2)] * 198 + [("x", 3)]), True)
        self.same(is_refusal(book, [("x", 1), ("y", 2)] + [("x", 2), ("y", 2)] * 199 + [("x", 3)]), False)

    def test_a_job_that_no_head_can_do(self):
        self.same(refusal(NOBODY), [("x", 1), ("x", 2), ("x", 3)])
        self.same([least_assignment(NOBODY), greatest_assignment(NOBODY)], [None, None])
        self.same(is_refusal(NOBODY, [("x", 1), ("x", 3)]), False)

    def test_other_values(self):
        for value in NO_INTEGERS + [0, "ab", [], (), {}, [("x", 1)], [("x", 3)], [("x", 1), ("y", 2)],
                                    [("x", 2), ("y", 3)], [["x", 1], ["y", 3]], [("x", True), ("y", 3)],
                                    [("w", 1), ("y", 3)], [("x", 1), ("y", 4)], [("x", 1), None, ("y", 3)],
                                    {("x", 1): ("y", 3)}, [("y", 3), ("x", 1)], ANYTHING]:
            self.same(is_refusal(STUCK, value), False)
        for row in [[("x", 1), ("y", 3)], (("x", 1), ("y", 3)), [("y", 1), ("x", 3)]]:
            self.same(is_refusal(STUCK, row), True)

    def test_new_lists(self):
        found = refusal(STUCK)
        wanted = list(found)
        found.append(None)
        self.same(refusal(STUCK), wanted)
        self.same(refusal(book=STUCK), wanted)


class TestChangedBooks(ErrorCase):

    def test_the_same_assignments(self):
        for book in some_books(541, 30):
            for changed in (book.later(5), book.moved(-FAR), book.backward(), book.scaled(parts=3, speed=3),
                            far_book(book, 10 ** 20, 10 ** 38)):
                self.same(least_assignment(changed), least_assignment(book))
                self.same(greatest_assignment(changed), greatest_assignment(book))

    def test_mirrored(self):
        for book in some_books(542, 30):
            last = len(book.beam) + 1
            least = least_assignment(book)
            self.same(greatest_assignment(book.mirrored()), least and {name: last - least[name] for name in least})
            for numbers in SlowBook(book).all_dicts[:30]:
                turned = {name: last - numbers[name] for name in numbers}
                self.same(is_assignment(book.mirrored(), turned), is_assignment(book, numbers))

    def test_narrower_and_faster(self):
        for book in some_books(543, 30):
            for numbers in SlowBook(book).assignments[:20]:
                self.same(is_assignment(book.scaled(speed=2), numbers), True)
                if book.names():
                    rest = {name: numbers[name] for name in book.names()[1:]}
                    self.same(is_assignment(book.without(book.names()[0]), rest), True)
            if book.beam.room >= 2 * len(book.beam):
                for numbers in SlowBook(book.wider(2)).assignments[:20]:
                    self.same(is_assignment(book.wider(1), numbers), True)

    def test_links_of_refusals_are_checked_one_by_one(self):
        for book in some_books(544, 30):
            found = refusal(book)
            if found is not None:
                words = [link_word(book, node, following) for node, following in zip(found, found[1:])]
                self.assertTrue(all(words))

    def test_what_was_passed_is_not_changed(self):
        before = repr(BOOK)
        numbers = {"y": 2, "x": 1}
        for _ in range(2):
            self.same(is_assignment(BOOK, numbers), True)
            self.same([least_assignment(BOOK), refusal(STUCK)], [{"x": 1, "y": 2}, refusal(STUCK)])
        self.assertEqual(list(numbers.items()), [("y", 2), ("x", 1)])
        self.assertEqual(repr(BOOK), before)
        self.assertEqual(list(numbers_of(BOOK)), [1, 2])


if __name__ == "__main__":
    unittest.main()
