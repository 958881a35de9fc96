import itertools
from random import Random
import unittest

from beamheads.assignments import least_assignment
from beamheads.beams import Beam
from beamheads.books import Book
from beamheads.errors import InvalidAssignment, InvalidPrices, NoAssignment
from beamheads.heads import Head
from beamheads.jobs import Job
from beamheads.lines import Line
from beamheads.prices import amounts_for, bound_of, cheapest, fewest_changes, price_of
from tests.helpers import ANYTHING, FAR, NO_INTEGERS, ErrorCase, small_beam, small_head
from tests.slow import SlowBook, numbers_of, some_book, some_done_book, some_free_book

BEAM = Beam(0, 30, Head("a", 1, 1, ["cut"], 2), Head("b", 1, 1, ["cut", "saw"], 1), Head("c", 1, 1, ["saw"], 0))
BOOK = Book(BEAM, Job("x", "cut", Line(0, 10)), Job("y", "saw", Line(40, 12)))
STUCK = Book(BEAM, Job("x", "cut", Line(0, 10)), Job("y", "cut", Line(0, 11)))
EMPTY = Book(BEAM)
PRICES = {"x": [5, 7, 9], "y": [1, 2, 3]}
NO_PRICES = [None, True, 0, 1, "", "xy", [], (), [("x", [1, 2, 3])], {"x": [1, 2, 3]}, {**PRICES, "z": [1, 2, 3]},
             {"x": [1, 2, 3], "z": [1, 2, 3]}, {"x": [1, 2, 3], 1: [1, 2, 3]}, {"x": [1, 2, 3], None: [1, 2, 3]},
             {"x": [1, 2, 3], ("y",): [1, 2, 3]}, {"x": [1, 2, 3], ANYTHING: [1, 2, 3]}, {"x", "y"}, ANYTHING]
NO_ROWS = [None, True, 3, "123", [], [1], [1, 2], [1, 2, 3, 4], (1, 2), {1: 1, 2: 2, 3: 3}, {1, 2, 3}, [1, 2, True],
           [None, 2, 3], [1, "2", 3], [1, [2], 3], [1, 2, ANYTHING], ANYTHING]


def some_prices(random, book, least=-4, greatest=4):
    return {name: [random.randint(least, greatest) for _ in numbers_of(book)] for name in book.names()}


def some_books(seed, many):
    random = Random(seed)
    for at in range(many):
        yield random, (some_free_book, some_done_book, some_book, some_free_book)[at % 4](random)


def price(prices, numbers):
    return sum(prices[name][numbers[name] - 1] for name in numbers)


def slow_cheapest(slow, prices):
    """The cheapest assignment of all of them, by all prices and then all numbers."""
    least = min(price(prices, numbers) for numbers in slow.assignments)
    found = [numbers for numbers in slow.assignments if price(prices, numbers) == least]
    return slow.least(found), least


def slow_bound(book, prices, amounts):
    """The bound straight from the words of the document."""
    n = len(book.beam)
    total = sum(prices[name][0] for name in prices)
    total += sum(amount for (node, _), amount in amounts.items() if node[1] == 1)
    for name in prices:
        for i in range(2, n + 1):
            w = prices[name][i - 1] - prices[name][i - 2]
            out = sum(amount for (node, _), amount in amounts.items() if node == (name, i))
            into = sum(amount for (_, following), amount in amounts.items() if following == (name, i))
            total += min(0, w + out - into)
    return total


class TestCheapest(ErrorCase):

    def test_against_all_assignments(self):
        found = []
        for random, book in some_books(711, 160):
            slow = SlowBook(book)
            for far in (1, 4, 10 ** 6, FAR):
                prices = some_prices(random, book, -far, far)
                if not slow.assignments:
                    self.fails(NoAssignment(), cheapest, book, prices)
                    continue
                wanted = slow_cheapest(slow, prices)
                self.same(cheapest(book, prices), wanted)
                found.append((wanted[0] == slow.least(), wanted[0] == slow.greatest()))
        self.assertGreater(found.count((False, False)), 40)

    def test_great_books(self):
        random = Random(712)
        beam = small_beam(5, 60, [(30, ())] * 5)
        for _ in range(8):
            jobs = [Job("pqrstuvw"[k], "cut", Line(20 * k, random.randint(10, 50))) for k in range(8)]
            book = Book(beam, *jobs)
            prices = some_prices(random, book, -9, 9)
            # The jobs are so far apart in time that each head can do each of them.
            wanted = {name: prices[name].index(min(prices[name])) + 1 for name in prices}
            self.same(cheapest(book, prices), (wanted, sum(min(row) for row in prices.values())))

    def test_of_several_cheapest_ones_that_with_the_least_numbers(self):
        for row, number in [([0, 0, 0], 1), ([1, 0, 0], 2), ([0, 0, -1], 1), ([0, -1, -1], 2), ([-3, -3, 9], 1)]:
            self.same(cheapest(BOOK, {"x": row, "y": [0, 0, 0]}),
                      ({"x": number, "y": 2}, row[number - 1]))
        # y cannot be done by head 1, and x not by head 3, however cheap.
        self.same(cheapest(BOOK, {"x": [0, 0, -FAR], "y": [-FAR, FAR, FAR]}), ({"x": 1, "y": 2}, FAR))

    def test_a_dear_head_to_make_room_for_a_cheaper_one(self):
        book = Book(BEAM, Job("x", "cut", Line(0, 10)), Job("y", "cut", Line(0, 12)))
        self.same(cheapest(book, {"x": [1, -99, 0], "y": [-99, 5, 0]}), ({"x": 1, "y": 2}, 6))

    def test_without_jobs(self):
        self.same(cheapest(EMPTY, {}), ({}, 0))
        self.same([amounts_for(EMPTY, {}), bound_of(EMPTY, {}, {}), price_of(EMPTY, {}, {})], [{}, 0, 0])
        self.same(fewest_changes(EMPTY, {}), ({}, 0))

    def test_one_head(self):
        book = Book(small_beam(1, 9), Job("x", "cut", Line(0, 0)), Job("y", "cut", Line(5, 0)))
        prices = {"x": [-3], "y": [8]}
        self.same(cheapest(book, prices), ({"x": 1, "y": 1}, 5))
        self.same([amounts_for(book, prices), bound_of(book, prices, {})], [{}, 5])
        stuck = book.with_job(Job("z", "cut", Line(0, 1)))
        self.same(bound_of(stuck, {**prices, "z": [0]}, {(("x", 1), ("z", 2)): 7}), 12)

    def test_tuples_in_another_sequence_and_new_dicts(self):
        prices = {"y": (1, 2, 3), "x": [5, 7, 9]}
        found = cheapest(prices=prices, book=BOOK)
        self.same(found, ({"x": 1, "y": 2}, 7))
        found[0].clear()
        self.same(cheapest(BOOK, PRICES), ({"x": 1, "y": 2}, 7))
        self.assertEqual(list(prices.items()), [("y", (1, 2, 3)), ("x", [5, 7, 9])])

    def test_the_price_of_an_assignment(self):
        for random, book in some_books(713, 40):
            slow = SlowBook(book)
            prices = some_prices(random, book, -FAR, FAR)
            for numbers in slow.all_dicts[:60]:
                if numbers in slow.assignments:
                    turned = {name: numbers[name] for name in reversed(list(numbers))}
                    self.same(price_of(book, prices, turned), price(prices, numbers))
                else:
                    self.fails(InvalidAssignment(numbers), price_of, book, prices, numbers)
        self.same(price_of(assignment={"y": 2, "x": 2}, prices=PRICES, book=BOOK), 9)


class TestAmounts(ErrorCase):

    def test_the_bound_is_the_price_of_the_cheapest_assignment(self):
        count = 0
        for random, book in some_books(721, 160):
            slow = SlowBook(book)
            for far in (2, 9, FAR):
                prices = some_prices(random, book, -far, far)
                if not slow.assignments:
                    self.fails(NoAssignment(), amounts_for, book, prices)
                    continue
                amounts = amounts_for(book, prices)
                self.assertIs(type(amounts), dict)
                self.assertEqual(list(amounts), sorted(amounts))
                for (node, following), amount in amounts.items():
                    self.assertIsNotNone(slow.word(node, following))
                    self.assertGreater(following[1], 1)
                    self.assertIs(type(amount), int)
                    self.assertGreater(amount, 0)
                self.assertEqual(slow_bound(book, prices, amounts), slow_cheapest(slow, prices)[1])
                self.same(bound_of(book, prices, amounts), slow_cheapest(slow, prices)[1])
                count += len(amounts) > 1
        self.assertGreater(count, 100)

    def test_no_amounts_have_a_greater_bound(self):
        told = []
        for random, book in some_books(722, 80):
            slow = SlowBook(book)
            links = [link for link in slow.links if link[1][1] > 1]
            prices = some_prices(random, book)
            for _ in range(12):
                chosen = random.sample(links, random.randint(0, min(5, len(links))))
                amounts = {link: random.choice([1, 2, 3, FAR]) for link in chosen}
                if slow.assignments and random.random() < 0.7:
                    amounts = {**amounts_for(book, prices), **amounts}
                bound = bound_of(book, prices, amounts)
                self.same(bound, slow_bound(book, prices, amounts))
                if slow.assignments:
                    least = slow_cheapest(slow, prices)[1]
                    self.assertLessEqual(bound, least)
                    told.append(bound == least)
        self.assertGreater(min(told.count(True), told.count(False)), 60)

    def test_lesser_pushes_are_links_too(self):
        self.same(bound_of(STUCK, PRICES, {}), 6)
        for number in (2, 3, 4):
            # What comes to the node (y, 2) or (y, 3) is more than what the price rises by.
            wanted = 6 + 10 + (1 - 10 if number < 4 else 0)
            self.same(bound_of(STUCK, PRICES, {(("x", 1), ("y", number)): 10}), wanted)
        self.same(bound_of(STUCK, PRICES, {(("x", 1), ("y", 4)): FAR}), 6 + FAR)

    def test_skips_pushes_and_drops(self):
        prices = {"x": [5, 7, 9], "y": [1, 2, 3]}
        self.same(bound_of(BOOK, prices, {(("y", 1), ("y", 2)): 1}), 7)
        self.same(bound_of(BOOK, prices, {(("y", 1), ("y", 2)): 2}), 7)
        self.same(bound_of(BOOK, prices, {(("x", 3), ("x", 4)): 3}), 6)
        self.same(bound_of(BOOK, prices, {(("x", 3), ("x", 2)): 3}), 5)
        self.same(bound_of(BOOK, prices, {(("x", 3), ("x", 2)): 2}), 6)
        self.same(bound_of(BOOK, {"x": [5, 7, 0], "y": [1, 2, 3]}, {(("x", 3), ("x", 4)): 3}), 6 - 4)

    def test_what_is_no_amounts(self):
        right = (("y", 1), ("y", 2))
        self.same(bound_of(BOOK, PRICES, {right: 1}), 7)
        for link in [(("x", 1), ("x", 2)), (("x", 2), ("x", 1)), (("y", 2), ("y", 1)), (("x", 1), ("y", 2)),
                     (("y", 1), ("y", 1)), (("y", 4), ("y", 3)), (("z", 1), ("z", 2)), (("y", 1), ("y", 5)),
                     (("y", 0), ("y", 1)), (("y", True), ("y", 2)), ("y", 1), ("y", 1, "y", 2), right + right[:1],
                     right[:1], (), None, 1, "yy", "", b"y", ("y", "y"), (("y", 1, 0), ("y", 2, 0)), ANYTHING]:
            self.same(bound_of(BOOK, PRICES, {link: 1}), None)
            # As keys of one dict, True and 1 are the same.
            if link != right:
                self.same(bound_of(BOOK, PRICES, {right: 1, link: 1}), None)
        for amount in NO_INTEGERS + [0, -1, -FAR]:
            self.same(bound_of(BOOK, PRICES, {right: amount}), None)
        for value in [None, True, 0, 7, "", "xy", [], (), [(right, 1)], ((right, 1),), {right}, set(), object(), dict,
                      ANYTHING]:
            self.same(bound_of(BOOK, PRICES, value), None)

    def test_a_book_without_an_assignment(self):
        count = 0
        for random, book in some_books(723, 80):
            slow = SlowBook(book)
            if slow.assignments:
                continue
            links = [link for link in slow.links if link[1][1] > 1]
            for _ in range(5):
                prices = some_prices(random, book)
                amounts = {link: random.randint(1, 4) for link in random.sample(links, min(4, len(links)))}
                self.same(bound_of(book, prices, amounts), slow_bound(book, prices, amounts))
                count += 1
        self.assertGreater(count, 20)

    def test_new_dicts_and_arguments_by_name(self):
        found = amounts_for(prices=PRICES, book=BOOK)
        self.same(found, {(("y", 1), ("y", 2)): 1})
        found.clear()
        self.same(amounts_for(BOOK, PRICES), {(("y", 1), ("y", 2)): 1})
        passed = {(("y", 1), ("y", 2)): 1, (("x", 3), ("x", 4)): 2}
        before = repr((PRICES, passed))
        self.same(bound_of(amounts=passed, prices=PRICES, book=BOOK), 7)
        self.same(bound_of(BOOK, PRICES, dict(reversed(list(passed.items())))), 7)
        self.assertEqual(repr((PRICES, passed)), before)


class TestFewestChanges(ErrorCase):

    def test_against_all_assignments(self):
        counts = []
        for random, book in some_books(731, 160):
            slow = SlowBook(book)
            for _ in range(6):
                names = random.sample(book.names(), random.randint(0, len(book)))
                wanted = {name: random.choice(numbers_of(book)) for name in names}
                if not slow.assignments:
                    self.fails(NoAssignment(), fewest_changes, book, wanted)
                    continue
                rows = [(sum(numbers[name] != wanted[name] for name in wanted), numbers) for numbers in slow.assignments]
                least = min(count for count, _ in rows)
                best = slow.least([numbers for count, numbers in rows if count == least])
                self.same(fewest_changes(book, wanted), (best, least))
                counts.append(least)
        self.assertEqual({0, 1, 2} - set(counts), set())

    def test_an_assignment_stays(self):
        for numbers in SlowBook(BOOK).assignments:
            self.same(fewest_changes(BOOK, numbers), (numbers, 0))
        self.same(fewest_changes(wanted={"x": 3, "y": 3}, book=BOOK), ({"x": 2, "y": 3}, 1))
        self.same(fewest_changes(BOOK, {"x": 3, "y": 2}), ({"x": 1, "y": 2}, 1))
        self.same(fewest_changes(BOOK, {"x": 1, "y": 3}), ({"x": 1, "y": 2}, 1))
        self.same(fewest_changes(BOOK, {"y": 1}), ({"x": 1, "y": 2}, 1))

    def test_wrong_values(self):
        for value in [None, True, 0, "", "x", [], (), [("x", 1)], {"x"}, {"z": 1}, {"x": 1, "z": 1}, {"x": 0}, {"x": 4},
                      {"x": -1}, {"x": True}, {"x": None}, {"x": "1"}, {"x": [1]}, {1: 1}, {None: 1}, {ANYTHING: 1},
                      {"x": 1, "y": 2, "z": 3}, {"x": ANYTHING}, ANYTHING]:
            self.fails(InvalidAssignment(value), fewest_changes, BOOK, value)
            self.fails(InvalidAssignment(value), fewest_changes, STUCK, value)
        self.fails(NoAssignment(), fewest_changes, STUCK, {"x": 1})


class TestWrong(ErrorCase):

    CALLS = (lambda book, prices: price_of(book, prices, None), cheapest, amounts_for,
             lambda book, prices: bound_of(book, prices, None))

    def test_prices(self):
        for call, book in itertools.product(self.CALLS, (BOOK, STUCK)):
            for value in NO_PRICES:
                self.fails(InvalidPrices(None), call, book, value)
            for row in NO_ROWS:
                self.fails(InvalidPrices("x"), call, book, {"x": row, "y": [1, 2, 3]})
                self.fails(InvalidPrices("y"), call, book, {"x": [1, 2, 3], "y": row})
                self.fails(InvalidPrices("x"), call, book, {"y": None, "x": row})
        self.fails(InvalidPrices(None), cheapest, EMPTY, {"x": [1, 2, 3]})
        self.fails(InvalidPrices(None), cheapest, BOOK, {})

    def test_assignments(self):
        for value in NO_INTEGERS + [{"x": 1}, {"x": 1, "y": 1}, {"x": 3, "y": 2}, {"x": 1, "y": 4}, {"x": True, "y": 2},
                                    {"x": 1, "y": 2, "z": 1}, [("x", 1), ("y", 2)]]:
            self.fails(InvalidAssignment(value), price_of, BOOK, PRICES, value)
            self.fails(InvalidPrices("y"), price_of, BOOK, {**PRICES, "y": [1]}, value)
        self.fails(InvalidAssignment({"x": 1, "y": 2}), price_of, STUCK, PRICES, {"x": 1, "y": 2})
        self.fails(NoAssignment(), cheapest, STUCK, PRICES)
        self.fails(NoAssignment(), amounts_for, STUCK, PRICES)
        self.same(bound_of(STUCK, PRICES, {}), 6)

    def test_changed_books_have_the_same_answers(self):
        for random, book in some_books(741, 30):
            if least_assignment(book) is None:
                continue
            prices = some_prices(random, book)
            wanted = cheapest(book, prices)
            for changed in (book.later(-FAR), book.moved(FAR), book.backward(), book.scaled(parts=3, speed=3)):
                self.same(cheapest(changed, prices), wanted)
            turned = {name: row[::-1] for name, row in prices.items()}
            self.assertEqual(cheapest(book.mirrored(), turned)[1], wanted[1])

    def test_small_head_kinds(self):
        beam = Beam(0, 99, small_head("a", speed=9), small_head("b", kinds=["saw"], speed=9), small_head("c", speed=9))
        book = Book(beam, Job("x", "cut", Line(0, 40)))
        self.same(cheapest(book, {"x": [2, -9, 1]}), ({"x": 3}, 1))
        self.same(cheapest(book, {"x": [2, -9, 2]}), ({"x": 1}, 2))
        self.same(fewest_changes(book, {"x": 2}), ({"x": 1}, 1))


if __name__ == "__main__":
    unittest.main()
