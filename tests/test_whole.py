"""The guarantees of the document, over the whole program, and its texts in between."""

import itertools
from random import Random
import unittest

from beamheads.assignments import (greatest_assignment, is_assignment, is_refusal, least_assignment, refusal)
from beamheads.choices import assignment_with, exclusion, is_exclusion, left_chains, surely_left
from beamheads.classes import are_steps, steps_between
from beamheads.folds import is_repeated, is_turn_refusal, least_repeated, turn_refusal
from beamheads.links import is_chain, link_word
from beamheads.logs import first_wrong_row, log_fits
from beamheads.motions import highest_places, lowest_places, motion_rows
from beamheads.prices import amounts_for, bound_of, cheapest, fewest_changes
from beamheads.spaces import assignment_beside, barring, free_places, is_barring
from beamheads.texts import assignment_text, book_text, chain_text, read_assignment, read_book, read_chain
from beamheads.turnlinks import is_turn_chain, turn_compatible, turn_misfit
from beamheads.windows import is_window, is_window_refusal, least_in_window, window_refusal
from tests.helpers import ErrorCase
from tests.slow import SlowBook, has_motion, numbers_of, some_book, some_done_book, some_free_book, window_of
from tests.slow_turns import some_done_turn_book, some_turn_book


def some_books(seed, many):
    random = Random(seed)
    for at in range(many):
        yield random, (some_book, some_done_book, some_free_book)[at % 3](random)


class TestGuarantees(ErrorCase):

    def check_chain(self, book, chain):
        """Each link can be checked by itself, and the chain survives its text."""
        for node, following in zip(chain, chain[1:]):
            self.assertIn(link_word(book, node, following), ("skip", "push", "drop"))
        self.same(read_chain(chain_text(chain)), chain)
        self.same(is_chain(read_book(book_text(book)), read_chain(chain_text(chain))), True)

    def test_one_or_the_other(self):
        found = []
        for _, book in some_books(961, 150):
            least, chain = least_assignment(book), refusal(book)
            self.assertEqual(least is None, chain is not None)
            self.assertEqual(greatest_assignment(book) is None, chain is not None)
            found.append(least is None)
            if chain is not None:
                self.same(is_refusal(book, chain), True)
                self.check_chain(book, chain)
                self.assertEqual((chain[0][1], chain[-1][1]), (1, len(book.beam) + 1))
        self.assertGreater(min(found.count(True), found.count(False)), 30)

    def test_a_motion_for_each(self):
        for _, book in some_books(962, 60):
            slow = SlowBook(book)
            first, last = window_of(book)
            for numbers in slow.all_dicts[:40]:
                if not is_assignment(book, numbers):
                    continue
                rows = list(motion_rows(book, numbers, first, last))[:40]
                self.same(first_wrong_row(book.beam, rows), None)
                self.same(log_fits(book, numbers, rows), True)
                highest = [(tick, highest_places(book, numbers, tick)) for tick in range(first, first + 20)]
                self.same(log_fits(book, numbers, highest), True)
                self.same(read_assignment(assignment_text(numbers)), numbers)

    def test_a_dict_without_a_motion_is_no_assignment(self):
        random = Random(963)
        told = []
        for _ in range(40):
            book = some_done_book(random, many=random.randint(1, 2), jobs=2, most_room=3)
            for numbers in SlowBook(book).all_dicts:
                names = list(numbers)
                shared = book.shared(*names)
                if numbers[names[0]] == numbers[names[1]] and shared and shared[0] < shared[1]:
                    continue
                wanted = has_motion(book, numbers)
                self.same(is_assignment(book, numbers), wanted)
                told.append(wanted)
        self.assertGreater(min(told.count(True), told.count(False)), 20)

    def test_all_assignments(self):
        for random, book in some_books(964, 45):
            found = SlowBook(book).assignments
            for one, other in itertools.product(found[:8], repeat=2):
                for choose in (min, max):
                    self.same(is_assignment(book, {name: choose(one[name], other[name]) for name in one}), True)
                self.same(are_steps(book, steps_between(book, one, other)), True)
                self.same(fewest_changes(book, one), (one, 0))
            if found:
                prices = {name: [random.randint(-9, 9) for _ in numbers_of(book)] for name in book.names()}
                numbers, price = cheapest(book, prices)
                self.same(is_assignment(book, numbers), True)
                self.same(bound_of(book, prices, amounts_for(book, prices)), price)

    def test_every_no_has_a_certificate(self):
        for random, book in some_books(965, 60):
            for name, number in itertools.product(book.names(), numbers_of(book)):
                chain = exclusion(book, name, number)
                self.assertEqual(chain is None, assignment_with(book, name, number) is not None)
                if chain is not None:
                    self.same(is_exclusion(book, name, number, chain), True)
                    self.check_chain(book, chain)
            tick, number = random.randint(-5, 5), random.choice(numbers_of(book))
            least, greatest = book.beam.range_of(number)
            free = free_places(book, number, tick)
            for place in range(least, greatest + 1):
                chain = barring(book, number, tick, place)
                self.assertEqual(chain is None, any(first <= place <= last for first, last in free))
                self.assertEqual(chain is None, assignment_beside(book, number, tick, place) is not None)
                if chain is not None:
                    self.same(is_barring(book, number, tick, place, chain), True)
                    self.check_chain(book, chain)
            if least_assignment(book) is not None:
                for one, other in itertools.permutations(book.names(), 2):
                    if surely_left(book, one, other):
                        for chain in left_chains(book, one, other):
                            self.check_chain(book, chain)

    def test_for_ever(self):
        found = []
        random = Random(966)
        for at in range(150):
            book = (some_turn_book, some_done_turn_book)[at % 2](random, jobs=random.randint(1, 3))
            numbers, chain = least_repeated(book), turn_refusal(book)
            self.assertEqual(numbers is None, chain is not None)
            found.append(numbers is None)
            if numbers is not None:
                self.same(is_repeated(book, numbers), True)
                self.same(is_window(book, [numbers] * 12), True)
                self.same(read_assignment(assignment_text(numbers)), numbers)
                for one, other, turn in itertools.product(numbers, numbers, (-7, -1, 1, 30)):
                    self.same(turn_compatible(book, one, numbers[one], other, numbers[other], turn), True)
                self.assertTrue(all(turn_misfit(book, name, numbers[name]) is None for name in numbers))
                continue
            self.same(is_turn_refusal(book, chain), True)
            for pair in zip(chain, chain[1:]):
                self.same(is_turn_chain(book, pair), True)
            many = max(turn for _, _, turn in chain) - min(turn for _, _, turn in chain) + 1
            if many <= 12:
                self.same(least_in_window(book, many), None)
                self.same(is_window_refusal(book, many, window_refusal(book, many)), True)
        self.assertGreater(min(found.count(True), found.count(False)), 30)

    def test_what_is_asked_changes_nothing(self):
        for _, book in some_books(967, 30):
            before, other = repr(book), read_book(book_text(book))
            for name, number in itertools.product(book.names(), numbers_of(book)):
                # One book is asked for all, and another one, equal to it, for each alone.
                self.same(assignment_with(book, name, number), assignment_with(read_book(book_text(book)), name, number))
            if least_assignment(book) is not None:
                self.same(lowest_places(book, least_assignment(book), 3), lowest_places(other, least_assignment(other), 3))
            self.assertEqual([repr(book), book], [before, other])
            self.same(refusal(book), refusal(book))


if __name__ == "__main__":
    unittest.main()
