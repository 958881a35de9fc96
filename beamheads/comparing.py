"""Comparing: books that have the same assignments, and what a job does to a book."""

from beamheads.assignments import can_be_done, least_assignment
from beamheads.closures import Closure
from beamheads.errors import UnlikeBooks


def telling_assignments(book):
    """The least assignment, and the least ones from all nodes; each other one is the greatest of some of these."""
    table = book.table
    # From the nodes with the number 1 it is the least assignment itself.
    nodes = [(name, number) for name in book.names() for number in range(2, len(book.beam) + 1)]
    found = [Closure(table, {}).least()]
    found = found + [Closure(table, {name: number}).least() for name, number in nodes]
    return [assignment for assignment in found if assignment is not None]


def missing_assignment(book, other):
    """An assignment of the book that the other one does not have, or None."""
    # If the other book has all of these, it has all greatest ones of them as well, which are all of the first one.
    table = other.table
    for assignment in telling_assignments(book):
        if not can_be_done(table, assignment):
            return assignment
    return None


def difference(book, other):
    if book.names() != other.names() or len(book.beam) != len(other.beam):
        raise UnlikeBooks()
    for side, first, second in [(1, book, other), (2, other, book)]:
        found = missing_assignment(first, second)
        if found is not None:
            return (side, found)
    return None


def can_be_completed(table, rest, name):
    """Whether some head can do the job of this name beside the rest."""
    return any([can_be_done(table, {**rest, name: number}) for number in range(1, table.outside())])


def stuck_rest(book, name):
    rest = book.without(name)
    table = book.table
    # If the job is in the way, it pushes from a node that holds to one that does not; then the latter does
    # not hold in the least assignment from the former either.
    for assignment in telling_assignments(rest):
        if not can_be_completed(table, assignment, name):
            return assignment
    return None


def is_needless(book, name):
    return stuck_rest(book, name) is None


def blocking_jobs(book):
    if least_assignment(book) is not None:
        return []
    return [name for name in book.names() if least_assignment(book.without(name)) is not None]
