"""Logs: rows of places that were told, and what they say about the motions of an assignment."""

from beamheads.assignments import check_assignment
from beamheads.bounds import highest_at, lowest_at
from beamheads.checks import check_integer, is_integer, is_list
from beamheads.errors import InvalidLog
from beamheads.lines import Line
from beamheads.losses import losses_from
from beamheads.motions import demands_of

# The document names this limit in the words about logs.
MOST_ROWS = 40


def is_row(beam, value):
    """Whether the value is a tuple of a tick and a tuple of as many places as there are heads."""
    if not isinstance(value, tuple) or len(value) != 2 or not is_integer(value[0]):
        return False
    places = value[1]
    if not isinstance(places, tuple) or len(places) != len(beam):
        return False
    return all([is_integer(place) for place in places])


def check_log(beam, log):
    if not is_list(log) or len(log) > MOST_ROWS:
        raise InvalidLog(None)
    for position, row in enumerate(log):
        if not is_row(beam, row):
            raise InvalidLog(position)
        if position > 0 and row[0] <= log[position - 1][0]:
            raise InvalidLog(position)


def is_far_enough(beam, i, j, places, others, losses):
    """Whether the other place of head j keeps the distance from the place of head i, less the loss."""
    return others[j - 1] >= places[i - 1] + beam.distance(i, j) - losses[j - i]


def wrong_way(beam, ahead, row):
    """The first (way, i, j) for which two neighbouring rows do not agree, or None."""
    for i in range(1, len(beam) + 1):
        forward = losses_from(beam, i, ahead[0], row[0])
        backward = losses_from(beam, i, row[0], ahead[0])
        for j in range(i, len(beam) + 1):
            if not is_far_enough(beam, i, j, ahead[1], row[1], forward):
                return ("forward", i, j)
            if not is_far_enough(beam, i, j, row[1], ahead[1], backward):
                return ("backward", i, j)
    return None


def find_wrong_row(beam, log):
    """The same as first_wrong_row, for a log that is checked."""
    for position, row in enumerate(log):
        if not beam.are_right(row[1]):
            return (position, "places")
        wrong = wrong_way(beam, log[position - 1], row) if position > 0 else None
        if wrong is not None:
            return (position, *wrong)
    return None


def first_wrong_row(beam, log):
    check_log(beam, log)
    return find_wrong_row(beam, log)


def is_fitting(book, assignment, log):
    """The same as log_fits, for an assignment and a log that are checked."""
    if find_wrong_row(book.beam, log) is not None:
        return False
    demands = demands_of(book, assignment)
    for tick, places in log:
        lowest = lowest_at(book.course, demands, tick)
        highest = highest_at(book.course, demands, tick)
        if not all([low <= place <= high for low, place, high in zip(lowest, places, highest)]):
            return False
    return True


def rows_as_demands(log):
    """What a log asks, as tuples (number, line): at the tick of a row each head is at its place."""
    return [(at + 1, Line(tick, place)) for tick, places in log for at, place in enumerate(places)]


def log_fits(book, assignment, log):
    check_assignment(book, assignment)
    check_log(book.beam, log)
    return is_fitting(book, assignment, log)


def lowest_with_log(book, assignment, log, tick):
    check_assignment(book, assignment)
    check_log(book.beam, log)
    check_integer(tick)
    if not is_fitting(book, assignment, log):
        return None
    return lowest_at(book.course, demands_of(book, assignment) + rows_as_demands(log), tick)
