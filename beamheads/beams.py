"""Beams: some heads between two ends, that cannot pass one another."""

from beamheads.checks import check_head_number, check_integer, is_integer
from beamheads.errors import BeamTooShort, InvalidHead, InvalidHeads, InvalidNumber, UnknownHead
from beamheads.heads import Head


def check_heads(heads, most):
    if not 1 <= len(heads) <= most:
        raise InvalidHeads(None)
    names = []
    for position, head in enumerate(heads):
        if not isinstance(head, Head) or head.name in names:
            raise InvalidHeads(position)
        names.append(head.name)


def least_places(left, heads):
    """The places of the heads when all of them stand as far left as they can."""
    places = []
    for head in heads:
        places.append(left + head.left)
        left = left + head.left + head.right
    return tuple(places)


class Beam:
    """A beam: its ends, and its heads from left to right."""

    MOST_HEADS = 5

    def __init__(self, left, right, *heads):
        check_integer(left)
        check_integer(right)
        if right <= left:
            raise InvalidNumber(right)
        check_heads(heads, Beam.MOST_HEADS)
        room = right - left - sum([head.left + head.right for head in heads])
        if room < 0:
            raise BeamTooShort(-room)
        self._left = left
        self._right = right
        self._heads = tuple(heads)
        self._room = room
        self._least = least_places(left, heads)

    @property
    def left(self):
        return self._left

    @property
    def right(self):
        return self._right

    @property
    def room(self):
        return self._room

    @property
    def heads(self):
        return self._heads

    def __len__(self):
        return len(self._heads)

    def __contains__(self, name):
        return isinstance(name, str) and name in [head.name for head in self._heads]

    def __eq__(self, other):
        return (isinstance(other, Beam) and self._left == other._left and self._right == other._right
                and self._heads == other._heads)

    def __repr__(self):
        heads = [repr(head) for head in self._heads]
        return f"Beam({self._left}, {self._right}, {', '.join(heads)})"

    def head(self, number):
        check_head_number(number, len(self._heads))
        return self._heads[number - 1]

    def number_of(self, name):
        if name not in self:
            raise UnknownHead(name)
        return [head.name for head in self._heads].index(name) + 1

    def distance(self, i, j):
        check_head_number(i, len(self._heads))
        check_head_number(j, len(self._heads), i)
        # Heads at their least places have exactly their distances.
        return self._least[j - 1] - self._least[i - 1]

    def range_of(self, number):
        check_head_number(number, len(self._heads))
        least = self._least[number - 1]
        return (least, least + self._room)

    def are_right(self, places):
        if not isinstance(places, tuple) or len(places) != len(self._heads):
            return False
        if not all([is_integer(place) for place in places]):
            return False
        # Counted from the least places, the distances are kept exactly if no place falls.
        ahead = [place - least for place, least in zip(places, self._least)]
        return ahead[0] >= 0 and ahead[-1] <= self._room and ahead == sorted(ahead)

    def speed_at(self, number, step):
        return self.head(number).speed_at(step)

    def packed(self, *, to_right=False):
        if to_right is True:
            return tuple([least + self._room for least in self._least])
        return self._least

    def with_head(self, head):
        if not isinstance(head, Head):
            raise InvalidHead(head)
        position = self.number_of(head.name) - 1
        heads = self._heads[:position] + (head,) + self._heads[position + 1:]
        return Beam(self._left, self._right, *heads)

    def mirrored(self):
        heads = [head.mirrored() for head in self._heads]
        heads.reverse()
        return Beam(-self._right, -self._left, *heads)

    def backward(self):
        heads = [head.backward() for head in self._heads]
        return Beam(self._left, self._right, *heads)

    def later(self, ticks):
        heads = [head.later(ticks) for head in self._heads]
        return Beam(self._left, self._right, *heads)

    def moved(self, places):
        check_integer(places)
        return Beam(self._left + places, self._right + places, *self._heads)

    def wider(self, more):
        heads = [head.wider(more) for head in self._heads]
        return Beam(self._left, self._right, *heads)

    def scaled(self, *, parts=1, speed=1):
        heads = [head.scaled(parts=parts, speed=speed) for head in self._heads]
        return Beam(self._left * parts, self._right * parts, *heads)
