"""Assignments: which head does which job, or a chain that tells why no heads can."""

from beamheads.checks import is_integer
from beamheads.closures import Closure, greatest_numbers
from beamheads.errors import InvalidAssignment
from beamheads.links import is_chain


def is_part_numbering(book, value):
    """Whether the value is a dict from names of jobs to numbers of heads."""
    if not isinstance(value, dict) or not all([name in book for name in value]):
        return False
    return all([is_integer(number) and 1 <= number <= len(book.beam) for number in value.values()])


def is_numbering(book, value):
    """Whether the value is a dict from exactly the names of the jobs to numbers of heads."""
    return is_part_numbering(book, value) and len(value) == len(book)


def can_be_done(table, numbers):
    """Whether each head fits its jobs, and each two jobs are compatible by their heads."""
    names = sorted(numbers)
    if not all([table.fits(name, numbers[name]) for name in names]):
        return False
    for at, one in enumerate(names):
        for other in names[:at]:
            if not table.are_compatible(one, numbers[one], other, numbers[other]):
                return False
    return True


def is_assignment(book, value):
    return is_numbering(book, value) and can_be_done(book.table, value)


def check_assignment(book, value):
    if not is_assignment(book, value):
        raise InvalidAssignment(value)


def least_assignment(book):
    return Closure(book.table, {}).least()


def greatest_assignment(book):
    return greatest_numbers(book.table)


def refusal(book):
    return Closure(book.table, {}).stuck_chain()


def is_refusal(book, value):
    return is_chain(book, value) and value[0][1] == 1 and value[-1][1] == len(book.beam) + 1
