"""Folds: assignments that are the same in each turn, and what they bind at a tick."""

from beamheads.assignments import is_numbering
from beamheads.bounds import highest_at, lowest_at
from beamheads.checks import check_integer
from beamheads.closures import Closure, greatest_numbers
from beamheads.errors import InvalidAssignment
from beamheads.turnlinks import is_turn_chain

# The document says that it is enough to look at these turns.
NEAR_TURNS = (-2, -1, 0, 1, 2)


def turns_between(one, other):
    """The near turns in which copies of the other job are different copies from copy 0 of the one job."""
    return [turn for turn in NEAR_TURNS if turn != 0 or one != other]


class Fold:
    """The links of a turn book, all copies of a job taken as one."""

    def __init__(self, table):
        self._table = table

    def names(self):
        return self._table.names()

    def outside(self):
        return self._table.outside()

    def _pushed_to(self, one, i, other):
        return max([self._table.pushed_to(one, i, other, turn) for turn in turns_between(one, other)])

    def forced(self, name, number):
        """The furthest nodes to which skips and pushes, to any near turns, lead from this node."""
        if number == self.outside():
            return []
        nodes = [(other, self._pushed_to(name, number, other)) for other in self.names()]
        return nodes if self._table.fits(name, number) else [(name, number + 1)] + nodes

    def turns_of(self, node, following):
        """By how many turns a link leads on."""
        name, number = node
        other, target = following
        if other == name and target == number + 1 and not self._table.fits(name, number):
            return 0
        turns = turns_between(name, other)
        return [turn for turn in turns if self._table.pushed_to(name, number, other, turn) >= target][0]

    def unfolded(self, chain):
        """The turn chain of a chain."""
        turn = 0
        nodes = [(*chain[0], turn)]
        for node, following in zip(chain, chain[1:]):
            turn = turn + self.turns_of(node, following)
            nodes.append((*following, turn))
        return nodes


def are_beside(table, one, i, other, j):
    """Whether all different copies of two jobs, or of one job, are compatible by these heads."""
    return all([table.are_compatible(one, i, other, j, turn) for turn in turns_between(one, other)])


def is_repeated(book, value):
    if not is_numbering(book, value):
        return False
    names = book.names()
    if not all([book.table.fits(name, value[name]) for name in names]):
        return False
    return all([are_beside(book.table, one, value[one], other, value[other]) for one in names for other in names])


def check_repeated(book, value):
    if not is_repeated(book, value):
        raise InvalidAssignment(value)


def least_repeated(book):
    return Closure(Fold(book.table), {}).least()


def greatest_repeated(book):
    return greatest_numbers(Fold(book.table))


def turn_refusal(book):
    fold = Fold(book.table)
    chain = Closure(fold, {}).stuck_chain()
    return fold.unfolded(chain) if chain else None


def is_turn_refusal(book, value):
    return is_turn_chain(book, value) and value[0][1] == 1 and value[-1][1] == len(book.beam) + 1


def demands_near(book, assignment, tick):
    """What the copies of the jobs ask that bind at a tick, as tuples (number, line)."""
    demands = []
    for job in book.jobs:
        # Of each tick of the line, the last copy up to the tick and the first one from it on bind; farther
        # copies do not bind more. A line is no longer than a turn, so that these are among three copies.
        turn = (tick - job.line.first) // book.period
        lines = [book.copy_of(job.name, turn + more) for more in (-1, 0, 1)]
        demands.extend([(assignment[job.name], line) for line in lines])
    return demands


def lowest_in_turns(book, assignment, tick):
    check_repeated(book, assignment)
    check_integer(tick)
    return lowest_at(book.course, demands_near(book, assignment, tick), tick)


def highest_in_turns(book, assignment, tick):
    check_repeated(book, assignment)
    check_integer(tick)
    return highest_at(book.course, demands_near(book, assignment, tick), tick)
