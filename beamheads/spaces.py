"""Spaces: the places where a head can be at a tick, over all assignments."""

from beamheads.bounds import greatest_by, least_by
from beamheads.checks import check_head_number, check_integer
from beamheads.closures import Closure
from beamheads.errors import OutOfRange
from beamheads.links import is_chain


def check_head_and_tick(book, number, tick):
    check_head_number(number, len(book.beam))
    check_integer(tick)


def check_spot(book, number, tick, place):
    check_head_and_tick(book, number, tick)
    check_integer(place)
    least, greatest = book.beam.range_of(number)
    if not least <= place <= greatest:
        raise OutOfRange(place)


class Beside:
    """From which place on, and up to which one, one head can be at a tick beside a job that another one does."""

    def __init__(self, book, number, tick, name):
        line = book.job(name).line
        many = len(book.beam)
        self._number = number
        self._from = [least_by(book.course, j, line, tick)[number - j] for j in range(1, number + 1)]
        self._up_to = [greatest_by(book.course, j, line, tick, number) for j in range(number, many + 1)]

    def bounds(self, place):
        """The tuple (LOW, HIGH) at this place."""
        low = [at + 1 for at, bound in enumerate(self._from) if bound <= place]
        high = [self._number + at for at, bound in enumerate(self._up_to) if place <= bound]
        return (min(low, default=self._number + 1), max(high, default=self._number - 1))

    def turning_places(self):
        """The places at which other bounds begin than those of the place left of it."""
        return self._from + [bound + 1 for bound in self._up_to]


class Spot:
    """What one head leaves to the jobs of a book when it is at a place of its range at a tick."""

    def __init__(self, book, number, tick):
        self._book = book
        self._range = book.beam.range_of(number)
        self._beside = {name: Beside(book, number, tick, name) for name in book.names()}

    def stretches(self):
        """Tuples (first, last) of places that make up the range, with the same bounds for all of each."""
        least, greatest = self._range
        places = [place for part in self._beside.values() for place in part.turning_places()]
        firsts = [least] + sorted(set([place for place in places if least < place <= greatest]))
        return list(zip(firsts, [first - 1 for first in firsts[1:]] + [greatest]))

    def lows(self, place):
        return {name: self._beside[name].bounds(place)[0] for name in self._beside}

    def highs(self, place):
        return {name: self._beside[name].bounds(place)[1] for name in self._beside}

    def closure(self, place):
        return Closure(self._book.table, self.lows(place))

    def barred_node(self, closure, place):
        """A node above the bounds that follows from them, or None."""
        highs = self.highs(place)
        for name in highs:
            if closure.number(name) > highs[name]:
                return (name, highs[name] + 1)
        return None

    def is_free(self, place):
        return self.barred_node(self.closure(place), place) is None


def beside(book, number, tick, place, name):
    check_spot(book, number, tick, place)
    return Beside(book, number, tick, name).bounds(place)


def joined_spaces(spaces):
    """The spaces, ascending, those that follow one another without a place between them made one."""
    joined = []
    for first, last in spaces:
        if joined and joined[-1][1] == first - 1:
            first = joined.pop()[0]
        joined.append((first, last))
    return joined


def free_places(book, number, tick):
    check_head_and_tick(book, number, tick)
    spot = Spot(book, number, tick)
    return joined_spaces([space for space in spot.stretches() if spot.is_free(space[0])])


def assignment_beside(book, number, tick, place):
    check_spot(book, number, tick, place)
    spot = Spot(book, number, tick)
    closure = spot.closure(place)
    # All numbers of the closure are the least ones: where they are too great, all others are.
    return closure.least() if spot.barred_node(closure, place) is None else None


def barring(book, number, tick, place):
    check_spot(book, number, tick, place)
    spot = Spot(book, number, tick)
    closure = spot.closure(place)
    node = spot.barred_node(closure, place)
    return closure.chain_to(node) if node else None


def is_barring(book, number, tick, place, value):
    check_spot(book, number, tick, place)
    if not is_chain(book, value):
        return False
    spot = Spot(book, number, tick)
    first, last = value[0], value[-1]
    return first[1] <= spot.lows(place)[first[0]] and last[1] > spot.highs(place)[last[0]]
