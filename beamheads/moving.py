"""Moving: which places can be reached from which ones, and when at the earliest."""

from beamheads.checks import check_integer
from beamheads.errors import InvalidNumber, InvalidPlaces
from beamheads.losses import losses_from


def check_places(beam, places):
    if not beam.are_right(places):
        raise InvalidPlaces(places)


def gives_way(beam, tick, places, end, others):
    """Whether no head at the places at tick pushes one beyond its other place at end."""
    for i in range(1, len(beam) + 1):
        for ahead, least in enumerate(losses_from(beam, i, tick, end)):
            j = i + ahead
            if others[j - 1] < places[i - 1] + beam.distance(i, j) - least:
                return False
    return True


def can_reach(beam, tick, places, end, others):
    """The same as can_move, for right places and ticks."""
    return gives_way(beam, tick, places, end, others) and gives_way(beam, end, others, tick, places)


def can_move(beam, tick, places, later, others):
    check_integer(tick)
    check_places(beam, places)
    check_integer(later)
    if later < tick:
        raise InvalidNumber(later)
    check_places(beam, others)
    return can_reach(beam, tick, places, later, others)


def last_useful_tick(beam, tick):
    """The tick at which all that can be reached from tick on is reached."""
    changes = [change[0] for head in beam.heads for change in head.changes]
    return max([tick] + changes) + beam.room + 1


def earliest_arrival(beam, tick, places, others):
    check_integer(tick)
    check_places(beam, places)
    check_places(beam, others)
    last = last_useful_tick(beam, tick)
    if not can_reach(beam, tick, places, last, others):
        return None
    # What can be reached at a tick can be reached at each later one, so that halving finds the first.
    first = tick
    while first < last:
        middle = (first + last) // 2
        if can_reach(beam, tick, places, middle, others):
            last = middle
        else:
            first = middle + 1
    return first
