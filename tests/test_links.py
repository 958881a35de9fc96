import itertools
from random import Random
import unittest

from beamheads.beams import Beam
from beamheads.books import Book
from beamheads.errors import SameJob, UnknownJob, UnknownNumber
from beamheads.heads import Head
from beamheads.jobs import Job
from beamheads.lines import Line
from beamheads.links import is_chain, is_node, link_word, links, pushed_to
from tests.helpers import ANYTHING, FAR, NO_INTEGERS, NO_NAMES, ErrorCase, small_beam
from tests.slow import SlowBook, numbers_of, some_book, some_done_book, some_free_book
from tests.test_pairs import far_book

BEAM = Beam(0, 40, Head("a", 5, 5, ["cut"], 1), Head("b", 5, 5, ["cut"], 0), Head("c", 5, 5, ["cut"], 1))
BOOK = Book(BEAM, Job("x", "cut", Line(0, 20)), Job("y", "cut", Line(10, 23)))
# At tick 5 the jobs are just the distance of two neighbours apart.
THREE = Book(BEAM, Job("p", "cut", Line(0, 15, [(9, 0)])), Job("q", "cut", Line(5, 5, [(2, 0)])),
             Job("r", "saw", Line(5, 25)))
EMPTY = Book(BEAM)
NO_NODES = NO_INTEGERS + [0, "ab", "x1", ("x",), ("x", 1, 1), ["x", 1], ("x", 0), ("x", 5), ("x", -1), ("x", FAR),
                          ("x", True), ("x", None), ("x", "1"), ("x", (1,)), ("w", 1), ("a", 1), (1, "x"), (1, 1),
                          (("x", 1),), (["x"], 1), (None, 1), (True, 1), ("", 1), ({"x": 1}, 1), ("x", [1]),
                          (ANYTHING, 1), ("x", ANYTHING), {"x": 1}, {"x", 1}, ("xy", 1)]


def some_books(seed, many):
    random = Random(seed)
    for at in range(many):
        yield (some_book, some_done_book, some_free_book)[at % 3](random, jobs=random.randint(1, 3))


class TestNodes(ErrorCase):

    def test_nodes(self):
        for name, number in itertools.product("xy", (1, 2, 3, 4)):
            self.same(is_node(BOOK, (name, number)), True)
            self.same(is_node(EMPTY, (name, number)), False)
            self.same(is_node(BOOK.without("x"), (name, number)), name == "y")
        self.same(is_node(value=("x", 4), book=BOOK), True)

    def test_other_values(self):
        for value in NO_NODES:
            self.same(is_node(BOOK, value), False)
            self.same(is_node(EMPTY, value), False)

    def test_one_head(self):
        book = Book(small_beam(1, 5), Job("x", "cut", Line(0, 0)))
        self.same([is_node(book, ("x", number)) for number in (0, 1, 2, 3)], [False, True, True, False])


class TestPushes(ErrorCase):

    def test_against_all_pairs_of_heads(self):
        for book in some_books(441, 90):
            slow = SlowBook(book)
            for one, other in itertools.permutations(book.names(), 2):
                for i in numbers_of(book):
                    wanted = max([j for j in range(2, slow.many + 2) if slow.word((one, i), (other, j))], default=1)
                    self.same(pushed_to(book, one, i, other), wanted)

    def test_heads_between_that_stand(self):
        # The jobs share no tick; the head in the middle cannot get from the one to the other, nor can heads pass it.
        self.same([pushed_to(BOOK, "x", number, "y") for number in (1, 2, 3)], [1, 3, 3])
        self.same([pushed_to(BOOK, "y", number, "x") for number in (1, 2, 3)], [1, 3, 3])

    def test_beyond_all_heads(self):
        self.same([pushed_to(THREE, "p", number, "q") for number in (1, 2, 3)], [1, 1, 2])
        self.same([pushed_to(THREE, "q", number, "p") for number in (1, 2, 3)], [2, 3, 4])
        self.same([pushed_to(THREE, "q", number, "r") for number in (1, 2, 3)], [2, 3, 4])
        self.same([pushed_to(THREE, "r", number, "p") for number in (1, 2, 3)], [1, 1, 2])

    def test_greater_numbers_push_at_least_as_far(self):
        for book in some_books(442, 30):
            for one, other in itertools.permutations(book.names(), 2):
                pushes = [pushed_to(book, one, number, other) for number in numbers_of(book)]
                self.assertEqual(pushes, sorted(pushes))

    def test_arguments_by_name(self):
        self.same(pushed_to(other="y", i=2, one="x", book=BOOK), 3)


class TestLinkWord(ErrorCase):

    def test_all_pairs_of_nodes(self):
        found = []
        for book in some_books(443, 90):
            slow = SlowBook(book)
            for node, following in itertools.product(slow.nodes, repeat=2):
                self.same(link_word(book, node, following), slow.word(node, following))
                found.append(slow.word(node, following))
        self.assertGreater(min(found.count(word) for word in ("skip", "push", "drop", None)), 40)

    def test_skips(self):
        book = Book(BEAM, Job("x", "saw", Line(0, 20)), Job("y", "cut", Line(0, 5)))
        for name, wanted in [("x", ["skip", "skip", "skip"]), ("y", [None, "skip", "skip"])]:
            self.same([link_word(book, (name, k), (name, k + 1)) for k in (1, 2, 3)], wanted)
        self.same([link_word(book, ("x", 1), ("x", k)) for k in (1, 2, 3, 4)], [None, "skip", None, None])

    def test_drops(self):
        self.same([link_word(BOOK, ("x", k), ("x", k - 1)) for k in (2, 3, 4)], ["drop", "drop", None])
        self.same([link_word(BOOK, ("x", 3), ("x", k)) for k in (1, 2, 3, 4)], [None, "drop", None, "skip"])

    def test_pushes_to_lesser_numbers(self):
        self.same([link_word(BOOK, ("x", 2), ("y", k)) for k in (1, 2, 3, 4)], [None, "push", "push", None])
        self.same([link_word(THREE, ("q", 3), ("p", k)) for k in (1, 2, 3, 4)], [None, "push", "push", "push"])
        self.same([link_word(THREE, ("q", 4), ("p", k)) for k in (1, 2, 3, 4)], [None] * 4)

    def test_other_values(self):
        for value in NO_NODES:
            self.assertIsNone(link_word(BOOK, value, ("y", 3)))
            self.assertIsNone(link_word(BOOK, ("x", 2), value))
            self.assertIsNone(link_word(BOOK, value, value))
            self.assertIsNone(link_word(EMPTY, value, value))
        self.same(link_word(following=("y", 3), node=("x", 2), book=BOOK), "push")


class TestLinks(ErrorCase):

    def wanted(self, book):
        slow = SlowBook(book)
        found = []
        for name, number in itertools.product(slow.names, numbers_of(book)):
            node = (name, number)
            furthest = {other: max([j for j in range(2, slow.many + 2) if slow.word(node, (other, j))], default=1)
                        for other in slow.names if other != name}
            for following, word in [((name, number + 1), "skip"), *[(push, "push") for push in furthest.items()],
                                    ((name, number - 1), "drop")]:
                if following[1] >= 1 and slow.word(node, following) == word:
                    found.append((node, following, word))
        return found

    def test_small_books(self):
        for book in some_books(444, 60):
            self.same(list(links(book)), self.wanted(book))

    def test_in_numbers(self):
        self.same(list(links(BOOK)), [
            (("x", 1), ("x", 2), "skip"), (("x", 2), ("y", 3), "push"), (("x", 2), ("x", 1), "drop"),
            (("x", 3), ("x", 4), "skip"), (("x", 3), ("y", 3), "push"), (("x", 3), ("x", 2), "drop"),
            (("y", 1), ("y", 2), "skip"), (("y", 2), ("x", 3), "push"), (("y", 2), ("y", 1), "drop"),
            (("y", 3), ("y", 4), "skip"), (("y", 3), ("x", 3), "push"), (("y", 3), ("y", 2), "drop")])
        self.same(list(links(THREE.without("q").without("r"))),
                  [(("p", 2), ("p", 1), "drop"), (("p", 3), ("p", 4), "skip"), (("p", 3), ("p", 2), "drop")])

    def test_all_are_links_with_these_words(self):
        for book in some_books(445, 30):
            for node, following, word in links(book):
                self.same(link_word(book, node, following), word)
                self.same(is_chain(book, [node, following]), True)

    def test_without_jobs(self):
        self.same(list(links(EMPTY)), [])

    def test_one_after_the_other(self):
        self.assertEqual(iter(links(BOOK)).__class__.__name__, "generator")
        row = links(book=BOOK)
        other = links(BOOK)
        self.same(next(row), (("x", 1), ("x", 2), "skip"))
        self.same(next(other), (("x", 1), ("x", 2), "skip"))
        self.same([*row], list(links(BOOK))[1:])
        self.same(len(list(other)), 11)
        self.assertIsNone(next(row, None))


class TestChains(ErrorCase):

    def test_all_rows_of_up_to_three_nodes(self):
        for book in some_books(451, 18):
            slow = SlowBook(book)
            nodes = slow.nodes[:8]
            for many in (1, 2, 3):
                for row in itertools.product(nodes, repeat=many):
                    self.same(is_chain(book, list(row)), slow.is_chain(row))

    def test_random_ways(self):
        random = Random(452)
        for book in some_books(453, 40):
            slow = SlowBook(book)
            row = [random.choice(slow.nodes)]
            while len(row) < 30 and any(node == row[-1] for node, _ in slow.links):
                row.append(random.choice([other for node, other in slow.links if node == row[-1]]))
            self.same(is_chain(book, row), True)
            for at in range(len(row)):
                for node in slow.nodes:
                    changed = row[:at] + [node] + row[at + 1:]
                    self.same(is_chain(book, changed), slow.is_chain(changed))

    def test_one_node(self):
        for name, number in itertools.product("xy", (1, 2, 3, 4)):
            self.same(is_chain(BOOK, [(name, number)]), True)
            self.same(is_chain(BOOK, ((name, number),)), True)
            self.same(is_chain(BOOK, [(name, number), (name, number)]), False)

    def test_nodes_that_come_again(self):
        row = [("x", 3), ("x", 2), ("y", 3), ("y", 2), ("x", 3)]
        self.same(is_chain(BOOK, row), True)
        self.same(is_chain(BOOK, row + row[1:] + row[1:]), True)
        self.same(is_chain(BOOK, row + row), False)

    def test_four_hundred_nodes(self):
        row = [("x", 2), ("y", 3), ("y", 2), ("x", 3)] * 101
        self.same([is_chain(BOOK, row[:many]) for many in (399, 400, 401, 404)], [True, True, False, False])
        row = [("x", 3), ("y", 3)] * 201
        self.same([is_chain(BOOK, row[:many]) for many in (398, 399, 400, 401, 402)], [True, True, True, False, False])
        self.same([is_chain(BOOK, tuple(row[:many])) for many in (400, 401)], [True, False])
        self.same([is_chain(BOOK, row[:399] + [node]) for node in [("x", 4), ("x", 2), ("x", 1), ("y", 4), ("x", 3)]],
                  [True, True, False, False, False])

    def test_tuples_and_lists(self):
        self.same(is_chain(BOOK, (("x", 2), ("y", 3))), True)
        self.same(is_chain(BOOK, [["x", 2], ("y", 3)]), False)
        self.same(is_chain(value=[("x", 2), ("y", 3)], book=BOOK), True)

    def test_other_values(self):
        for value in NO_INTEGERS + [0, "", "ab", [], (), {}, {("x", 1): 1}, {("x", 1)}, iter([("x", 1)]), ("x", 1),
                                    ["x", 1], [[("x", 1)]]]:
            self.same(is_chain(BOOK, value), False)
        for value in NO_NODES:
            for row in ([value], [("x", 2), value], [value, ("y", 3)], [("x", 2), ("y", 3), value]):
                self.same(is_chain(BOOK, row), False)
                self.same(is_chain(EMPTY, row), False)
        for row in [[("x", 2), ("x", 3)], [("x", 1), ("y", 2)], [("x", 2), ("y", 4)], [("x", 2), ("y", 1)],
                    [("x", 4), ("x", 3)], [("x", 3), ("x", 1)]]:
            self.same(is_chain(BOOK, row), False)


class TestChangedBooks(ErrorCase):

    def test_later_moved_scaled_backward(self):
        for book in some_books(454, 24):
            wanted = list(links(book))
            for changed in (book.later(-7), book.moved(FAR), book.scaled(parts=7, speed=7), book.backward(),
                            far_book(book, 10 ** 19, 10 ** 38)):
                self.same(list(links(changed)), wanted)

    def test_mirrored(self):
        for book in some_books(455, 24):
            last = len(book.beam) + 1
            for one, other in itertools.permutations(book.names(), 2):
                # If the other job has a lesser number than j, the first one has a lesser number than i.
                for i, j in itertools.product(numbers_of(book), range(2, last + 1)):
                    self.same(link_word(book, (one, i), (other, j)),
                              link_word(book.mirrored(), (other, last - j + 1), (one, last - i + 1)))

    def test_faster_heads_push_no_further(self):
        for book in some_books(456, 24):
            for one, other in itertools.permutations(book.names(), 2):
                for i in numbers_of(book):
                    faster = book.scaled(speed=2)
                    self.assertGreaterEqual(pushed_to(book, one, i, other), pushed_to(faster, one, i, other))


class TestWrong(ErrorCase):

    def test_pushed_to(self):
        for value in NO_NAMES + ["w", "a", "cut", BOOK, ("x", 1)]:
            self.fails(UnknownJob(value), pushed_to, BOOK, value, 1, "y")
            self.fails(UnknownJob(value), pushed_to, BOOK, "x", 1, value)
            self.fails(UnknownJob(value), pushed_to, EMPTY, value, 1, value)
        for value in NO_INTEGERS + [0, 4, -1, FAR, "x"]:
            self.fails(UnknownNumber(value), pushed_to, BOOK, "x", value, "y")
        for number in (1, 2, 3):
            self.fails(SameJob("x"), pushed_to, BOOK, "x", number, "x")

    def test_the_first_wrong_parameter_decides(self):
        self.fails(UnknownJob("w"), pushed_to, BOOK, "w", 4, None)
        self.fails(UnknownJob("w"), pushed_to, BOOK, "w", 4, "y")
        self.fails(UnknownNumber(4), pushed_to, BOOK, "x", 4, None)
        self.fails(UnknownNumber(4), pushed_to, BOOK, "x", 4, "x")
        self.fails(UnknownJob("w"), pushed_to, BOOK, "w", 1, "w")

    def test_what_was_passed_is_not_changed(self):
        before = repr(BOOK)
        row = [("x", 2), ("y", 3)]
        self.same(is_chain(BOOK, row), is_chain(BOOK, row))
        self.same(row, [("x", 2), ("y", 3)])
        self.same([list(links(BOOK))] * 2, [list(links(BOOK)), list(links(BOOK))])
        self.assertEqual(repr(BOOK), before)


if __name__ == "__main__":
    unittest.main()
