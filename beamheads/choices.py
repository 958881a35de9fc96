"""Choices: which heads a job can have over all assignments, and which job is surely left of another one."""

from beamheads.assignments import least_assignment
from beamheads.checks import check_head_number, is_list
from beamheads.closures import Closure
from beamheads.errors import NoAssignment
from beamheads.links import is_chain
from beamheads.pairs import check_other_job


def check_job_and_number(book, name, number):
    book.job(name)
    check_head_number(number, len(book.beam))


def check_two_jobs(book, one, other):
    book.job(one)
    check_other_job(book, one, other)
    if least_assignment(book) is None:
        raise NoAssignment()


def leads(book, value, begin, end):
    """Whether the value is a chain from the one node, or the number 1, to the other one, or beyond all heads."""
    if not is_chain(book, value):
        return False
    begins = value[0] == begin or value[0][1] == 1
    return begins and (value[-1] == end or value[-1][1] == len(book.beam) + 1)


def leading_chain(closure, end):
    """A chain to this node, or else beyond all heads; None if neither is reached."""
    if closure.number(end[0]) >= end[1]:
        return closure.chain_to(end)
    return closure.stuck_chain()


def least_from(book, name, number):
    check_job_and_number(book, name, number)
    return Closure(book.table, {name: number}).least()


def assignment_with(book, name, number):
    # If the least one with at least this number has a greater one, none has just this number.
    least = least_from(book, name, number)
    return least if least is not None and least[name] == number else None


def exclusion(book, name, number):
    check_job_and_number(book, name, number)
    return leading_chain(Closure(book.table, {name: number}), (name, number + 1))


def is_exclusion(book, name, number, value):
    check_job_and_number(book, name, number)
    return leads(book, value, (name, number), (name, number + 1))


def chains_or_nones(book, one, other):
    """For each number of the one job a left chain, or None where there is none."""
    table = book.table
    return [leading_chain(Closure(table, {one: i}), (other, i + 1)) for i in range(1, len(book.beam) + 1)]


def surely_left(book, one, other):
    check_two_jobs(book, one, other)
    return None not in chains_or_nones(book, one, other)


def left_chains(book, one, other):
    check_two_jobs(book, one, other)
    chains = chains_or_nones(book, one, other)
    return None if None in chains else chains


def are_left_chains(book, one, other, value):
    check_two_jobs(book, one, other)
    if not is_list(value) or len(value) != len(book.beam):
        return False
    return all([leads(book, chain, (one, at + 1), (other, at + 2)) for at, chain in enumerate(value)])


def not_left(book, one, other):
    check_two_jobs(book, one, other)
    table = book.table
    for number in range(1, len(book.beam) + 1):
        least = Closure(table, {one: number}).least()
        if least is not None and least[one] >= least[other]:
            return least
    return None
