"""Links: what follows from a job having a number, or a greater one, for the same and for other jobs."""

from beamheads.checks import check_head_number, is_integer, is_list
from beamheads.pairs import check_other_job

# The document names this limit in the words about chains.
MOST_NODES = 400


def is_node(book, value):
    if not isinstance(value, tuple) or len(value) != 2:
        return False
    return value[0] in book and is_integer(value[1]) and 1 <= value[1] <= len(book.beam) + 1


def pushed_to(book, one, i, other):
    book.job(one)
    check_head_number(i, len(book.beam))
    check_other_job(book, one, other)
    return book.table.pushed_to(one, i, other)


def word_between(table, node, following, turn=0):
    """The word of the link from a node to another one, so many turns later, or None."""
    name, number = node
    other, target = following
    if number == table.outside():
        return None
    if other != name or turn != 0:
        return "push" if 2 <= target <= table.pushed_to(name, number, other, turn) else None
    if target == number + 1 and not table.fits(name, number):
        return "skip"
    return "drop" if target == number - 1 else None


def link_word(book, node, following):
    if not is_node(book, node) or not is_node(book, following):
        return None
    return word_between(book.table, node, following)


def can_be_chain(value):
    """Whether the value is a list, and as long as a chain can be."""
    return is_list(value) and 1 <= len(value) <= MOST_NODES


def is_chain(book, value):
    if not can_be_chain(value) or not all([is_node(book, node) for node in value]):
        return False
    table = book.table
    words = [word_between(table, node, following) for node, following in zip(value, value[1:])]
    return None not in words


def links(book):
    table = book.table
    names = book.names()
    for name in names:
        for number in range(1, len(book.beam) + 1):
            if not table.fits(name, number):
                yield ((name, number), (name, number + 1), "skip")
            for other in names:
                if other != name and table.pushed_to(name, number, other) > 1:
                    yield ((name, number), (other, table.pushed_to(name, number, other)), "push")
            if number > 1:
                yield ((name, number), (name, number - 1), "drop")
