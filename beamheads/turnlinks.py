"""Turn links: which copies of jobs push which ones, in books that repeat for ever."""

from beamheads.checks import check_head_number, check_integer, is_integer
from beamheads.errors import SameJob
from beamheads.links import can_be_chain, is_node, word_between
from beamheads.pairs import check_pair


def check_other_copy(one, other, turn):
    if one == other and turn == 0:
        raise SameJob(other)


def turn_excess(book, one, i, other, j, turn):
    check_pair(book, one, i, other, j)
    check_integer(turn)
    return book.table.excess(one, i, other, j, turn)


def turn_compatible(book, one, i, other, j, turn):
    book.job(one)
    check_head_number(i, len(book.beam))
    book.job(other)
    check_head_number(j, len(book.beam))
    check_integer(turn)
    check_other_copy(one, other, turn)
    return book.table.are_compatible(one, i, other, j, turn)


def turn_misfit(book, name, number):
    book.job(name)
    check_head_number(number, len(book.beam))
    return book.table.misfit(name, number)


def turn_pushed_to(book, one, i, other, turn):
    book.job(one)
    check_head_number(i, len(book.beam))
    book.job(other)
    check_integer(turn)
    check_other_copy(one, other, turn)
    return book.table.pushed_to(one, i, other, turn)


def is_turn_node(book, value):
    return isinstance(value, tuple) and len(value) == 3 and is_node(book, value[:2]) and is_integer(value[2])


def is_turn_link(table, node, following):
    turn = following[2] - node[2]
    return word_between(table, node[:2], following[:2], turn) is not None


def is_turn_chain(book, value):
    if not can_be_chain(value) or not all([is_turn_node(book, node) for node in value]):
        return False
    return all([is_turn_link(book.table, node, following) for node, following in zip(value, value[1:])])
