"""Motions: the lowest and the highest places that the heads have while they do their jobs."""

from beamheads.assignments import check_assignment, greatest_assignment, least_assignment
from beamheads.bounds import highest_at, lowest_at
from beamheads.checks import check_integer
from beamheads.errors import NoAssignment


def demands_of(book, assignment):
    """What an assignment asks, as tuples (number, line): the head with this number is on the line."""
    return [(assignment[job.name], job.line) for job in book.jobs]


def lowest_places(book, assignment, tick):
    check_assignment(book, assignment)
    check_integer(tick)
    return lowest_at(book.course, demands_of(book, assignment), tick)


def highest_places(book, assignment, tick):
    check_assignment(book, assignment)
    check_integer(tick)
    return highest_at(book.course, demands_of(book, assignment), tick)


def lowest_of_all(book, tick):
    check_integer(tick)
    greatest = greatest_assignment(book)
    if greatest is None:
        raise NoAssignment()
    return lowest_at(book.course, demands_of(book, greatest), tick)


def highest_of_all(book, tick):
    check_integer(tick)
    least = least_assignment(book)
    if least is None:
        raise NoAssignment()
    return highest_at(book.course, demands_of(book, least), tick)


def motion_rows(book, assignment, first, last):
    check_assignment(book, assignment)
    check_integer(first)
    check_integer(last)
    demands = demands_of(book, assignment)
    for tick in range(first, last + 1):
        yield (tick, lowest_at(book.course, demands, tick))
