"""Pairs: which heads fit a job, and which heads can do two jobs."""

from beamheads.bounds import turning_ticks
from beamheads.checks import check_head_number, is_pair
from beamheads.errors import SameJob
from beamheads.losses import losses_from


def check_pair(book, one, i, other, j):
    book.job(one)
    check_head_number(i, len(book.beam))
    book.job(other)
    check_head_number(j, len(book.beam), i)


def check_other_job(book, one, other):
    book.job(other)
    if other == one:
        raise SameJob(other)


def value_at(book, one, i, s, other, j, t):
    """By how much the one job at s is too far right for the other one at t."""
    ahead = book.job(one).line.at(s) + book.beam.distance(i, j) - losses_from(book.beam, i, s, t)[j - i]
    return ahead - book.job(other).line.at(t)


def excess(book, one, i, other, j):
    check_pair(book, one, i, other, j)
    return book.table.excess(one, i, other, j)


def breach(book, one, i, other, j):
    check_pair(book, one, i, other, j)
    line = book.job(one).line
    beside = book.job(other).line
    ticks = turning_ticks(book.course, line, beside)
    for s in [tick for tick in ticks if tick in line]:
        for t in [tick for tick in ticks if tick in beside]:
            if value_at(book, one, i, s, other, j, t) > 0:
                return (s, t)
    return None


def is_breach(book, one, i, other, j, value):
    check_pair(book, one, i, other, j)
    if not is_pair(value) or value[0] not in book.job(one).line or value[1] not in book.job(other).line:
        return False
    return value_at(book, one, i, value[0], other, j, value[1]) > 0


def misfit(book, name, number):
    book.job(name)
    check_head_number(number, len(book.beam))
    return book.table.misfit(name, number)


def fitting(book, name):
    book.job(name)
    table = book.table
    return [number for number in range(1, len(book.beam) + 1) if table.fits(name, number)]


def are_compatible(book, one, i, other, j):
    book.job(one)
    check_head_number(i, len(book.beam))
    check_other_job(book, one, other)
    check_head_number(j, len(book.beam))
    return book.table.are_compatible(one, i, other, j)
