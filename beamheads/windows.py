"""Windows: some turns alone, in each of which the jobs may be done by other heads."""

from beamheads.assignments import is_numbering
from beamheads.checks import is_count, is_list
from beamheads.closures import Closure
from beamheads.errors import InvalidNumber
from beamheads.folds import is_turn_refusal

# The document names this limit in the words about windows.
MOST_TURNS = 12


def check_turns_of_window(many):
    if not is_count(many) or many > MOST_TURNS:
        raise InvalidNumber(many)


class Window:
    """The links of the copies of the first turns of a turn book; a copy is named by its job and its turn."""

    def __init__(self, table, many):
        self._table = table
        self._copies = [(name, turn) for turn in range(many) for name in table.names()]

    def names(self):
        return list(self._copies)

    def outside(self):
        return self._table.outside()

    def forced(self, copy, number):
        """The furthest nodes to which skips and pushes lead from this node."""
        if number == self.outside():
            return []
        name, turn = copy
        others = [other for other in self._copies if other != copy]
        nodes = [(other, self._table.pushed_to(name, number, other[0], other[1] - turn)) for other in others]
        return nodes if self._table.fits(name, number) else [(copy, number + 1)] + nodes


def least_in_window(book, many):
    check_turns_of_window(many)
    least = Closure(Window(book.table, many), {}).least()
    if least is None:
        return None
    return [{name: least[name, turn] for name in book.names()} for turn in range(many)]


def are_compatible_copies(book, rows):
    """Whether all different copies are compatible by the heads that the rows, turn by turn, give them."""
    copies = [(name, turn, row[name]) for turn, row in enumerate(rows) for name in row]
    for at, (one, turn, i) in enumerate(copies):
        for other, later, j in copies[:at]:
            if not book.table.are_compatible(one, i, other, j, later - turn):
                return False
    return True


def is_window(book, value):
    if not is_list(value) or len(value) > MOST_TURNS or not all([is_numbering(book, row) for row in value]):
        return False
    if not all([book.table.fits(name, row[name]) for row in value for name in row]):
        return False
    return are_compatible_copies(book, value)


def window_refusal(book, many):
    check_turns_of_window(many)
    chain = Closure(Window(book.table, many), {}).stuck_chain()
    return [(name, number, turn) for (name, turn), number in chain] if chain else None


def is_window_refusal(book, many, value):
    check_turns_of_window(many)
    return is_turn_refusal(book, value) and all([0 <= node[2] < many for node in value])
