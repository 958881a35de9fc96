"""Lines: the place of a job at each of its ticks."""

from beamheads.checks import check_count, check_integer, check_positive, is_integer, is_list, is_pair
from beamheads.errors import InvalidLegs, InvalidLine, NoTick


def check_legs(legs, most):
    if not is_list(legs) or len(legs) > most:
        raise InvalidLegs(None)
    for position, leg in enumerate(legs):
        if not is_pair(leg) or leg[0] < 1:
            raise InvalidLegs(position)


def can_follow(before, after):
    """Whether a line of one leg leads from the one corner to the other."""
    ticks = after[0] - before[0]
    return ticks > 0 and (after[1] - before[1]) % ticks == 0


def check_corners(corners):
    if not corners:
        raise InvalidLegs(None)
    for position, corner in enumerate(corners):
        if not is_pair(corner):
            raise InvalidLegs(position)
        if position > 0 and not can_follow(corners[position - 1], corner):
            raise InvalidLegs(position)


def leg_between(before, after):
    ticks = after[0] - before[0]
    return (ticks, (after[1] - before[1]) // ticks)


def joined_legs(legs):
    """The legs, neighbours of equal speed made one."""
    joined = []
    for ticks, speed in legs:
        if joined and joined[-1][1] == speed:
            ticks = ticks + joined.pop()[0]
        joined.append((ticks, speed))
    return tuple(joined)


def corners_of(tick, place, legs):
    corners = [(tick, place)]
    for ticks, speed in legs:
        tick = tick + ticks
        place = place + ticks * speed
        corners.append((tick, place))
    return tuple(corners)


def shared_ticks(line, other):
    """The first and the last tick that both lines have, or None."""
    first = max(line.first, other.first)
    last = min(line.last, other.last)
    return (first, last) if first <= last else None


class Line:
    """A line: its first tick and place, and legs of even speed."""

    MOST_LEGS = 3

    def __init__(self, tick, place, legs=()):
        check_integer(tick)
        check_integer(place)
        check_legs(legs, Line.MOST_LEGS)
        self._first = tick
        self._place = place
        self._legs = joined_legs(legs)
        self._corners = corners_of(tick, place, self._legs)

    @classmethod
    def through(cls, *corners):
        check_corners(corners)
        legs = [leg_between(before, after) for before, after in zip(corners, corners[1:])]
        return cls(corners[0][0], corners[0][1], joined_legs(legs))

    @staticmethod
    def stay(tick, place, *, ticks=0):
        check_integer(tick)
        check_integer(place)
        check_count(ticks)
        return Line(tick, place, [(ticks, 0)] if ticks > 0 else [])

    @property
    def first(self):
        return self._first

    @property
    def last(self):
        return self._corners[-1][0]

    @property
    def place(self):
        return self._place

    @place.setter
    def place(self, value):
        # Errors have attributes of this name; what is assigned somewhere needs a setter in every class.
        raise AttributeError("a line does not change")

    @property
    def legs(self):
        return self._legs

    @property
    def is_moment(self):
        return self._legs == ()

    @property
    def lowest(self):
        return min([corner[1] for corner in self._corners])

    @property
    def highest(self):
        return max([corner[1] for corner in self._corners])

    def __contains__(self, tick):
        return is_integer(tick) and self._first <= tick <= self._corners[-1][0]

    def __eq__(self, other):
        # With neighbours of equal speed made one, a line can be written with just one row of legs.
        return (isinstance(other, Line) and self._first == other._first and self._place == other._place
                and self._legs == other._legs)

    def __repr__(self):
        return f"Line({self._first}, {self._place}, {self._legs})"

    def __add__(self, other):
        if not isinstance(other, Line) or other._corners[0] != self._corners[-1]:
            raise InvalidLine(other)
        return Line(self._first, self._place, joined_legs(self._legs + other._legs))

    def at(self, tick):
        if tick not in self:
            raise NoTick(tick)
        place = self._place
        left = tick - self._first
        for ticks, speed in self._legs:
            place = place + speed * min(left, ticks)
            left = left - min(left, ticks)
        return place

    def corners(self):
        return list(self._corners)

    def later(self, ticks):
        check_integer(ticks)
        return Line(self._first + ticks, self._place, self._legs)

    def moved(self, places):
        check_integer(places)
        return Line(self._first, self._place + places, self._legs)

    def mirrored(self):
        return Line(self._first, -self._place, [(ticks, -speed) for ticks, speed in self._legs])

    def backward(self):
        tick, place = self._corners[-1]
        legs = [(ticks, -speed) for ticks, speed in self._legs]
        return Line(-tick, place, legs[::-1])

    def scaled(self, *, parts=1):
        check_positive(parts)
        return Line(self._first, self._place * parts, [(ticks, speed * parts) for ticks, speed in self._legs])
