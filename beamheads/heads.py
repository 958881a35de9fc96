"""Heads: what they can do, how much room they need, and how fast they are."""

from beamheads.checks import check_count, check_integer, check_name, check_positive
from beamheads.checks import is_list, is_name, is_pair
from beamheads.errors import InvalidChanges, InvalidKinds


def check_kinds(kinds, most):
    if not is_list(kinds) or not 1 <= len(kinds) <= most:
        raise InvalidKinds(None)
    for position, kind in enumerate(kinds):
        if not is_name(kind) or kind in kinds[:position]:
            raise InvalidKinds(position)


def check_changes(changes, most):
    if not is_list(changes) or len(changes) > most:
        raise InvalidChanges(None)
    for position, change in enumerate(changes):
        if not is_pair(change) or change[1] < 0:
            raise InvalidChanges(position)
        if position > 0 and change[0] <= changes[position - 1][0]:
            raise InvalidChanges(position)


def changes_left(speed, changes):
    """The changes without those to the speed that holds just before them."""
    left = []
    for tick, following in changes:
        if following != speed:
            left.append((tick, following))
        speed = following
    return tuple(left)


class Head:
    """A head: its name, its reaches, its kinds of work, and its speeds."""

    MOST_KINDS = 4
    MOST_CHANGES = 3

    def __init__(self, name, left, right, kinds, speed, changes=()):
        check_name(name)
        check_positive(left)
        check_positive(right)
        check_kinds(kinds, Head.MOST_KINDS)
        check_count(speed)
        check_changes(changes, Head.MOST_CHANGES)
        self._name = name
        self._left = left
        self._right = right
        self._kinds = tuple(sorted(kinds))
        self._speed = speed
        self._changes = changes_left(speed, changes)

    @property
    def name(self):
        return self._name

    @name.setter
    def name(self, value):
        # Errors have attributes of this name; what is assigned somewhere needs a setter in every class.
        raise AttributeError("a head does not change")

    @property
    def left(self):
        return self._left

    @property
    def right(self):
        return self._right

    @property
    def kinds(self):
        return self._kinds

    @property
    def speed(self):
        return self._speed

    @property
    def changes(self):
        return self._changes

    def __eq__(self, other):
        return (isinstance(other, Head) and self._name == other._name and self._left == other._left
                and self._right == other._right and self._kinds == other._kinds
                and self._speed == other._speed and self._changes == other._changes)

    def __repr__(self):
        return f"Head({self._name!r}, {self._left}, {self._right}, {self._kinds}, {self._speed}, {self._changes})"

    def speed_at(self, step):
        check_integer(step)
        speed = self._speed
        for tick, following in self._changes:
            if tick <= step:
                speed = following
        return speed

    def does(self, kind):
        return isinstance(kind, str) and kind in self._kinds

    def with_speed(self, speed, *changes):
        return Head(self._name, self._left, self._right, self._kinds, speed, changes)

    def mirrored(self):
        return Head(self._name, self._right, self._left, self._kinds, self._speed, self._changes)

    def backward(self):
        # A change at a tick lies behind the step before it, which comes after it when time goes backward.
        speeds = [self._speed] + [change[1] for change in self._changes]
        changes = [(-change[0], before) for change, before in zip(self._changes, speeds)]
        return Head(self._name, self._left, self._right, self._kinds, speeds[-1], changes[::-1])

    def later(self, ticks):
        check_integer(ticks)
        changes = [(tick + ticks, speed) for tick, speed in self._changes]
        return Head(self._name, self._left, self._right, self._kinds, self._speed, changes)

    def wider(self, more):
        check_count(more)
        return Head(self._name, self._left, self._right + more, self._kinds, self._speed, self._changes)

    def scaled(self, *, parts=1, speed=1):
        check_positive(parts)
        check_count(speed)
        changes = [(tick, following * speed) for tick, following in self._changes]
        return Head(self._name, self._left * parts, self._right * parts, self._kinds, self._speed * speed, changes)
