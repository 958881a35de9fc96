"""Limits: how slow the heads and how narrow the beam may be for a book that can still be done."""

from beamheads.assignments import least_assignment
from beamheads.checks import check_positive
from beamheads.errors import NoAssignment


def can_be_done_with(book, parts, speed):
    return least_assignment(book.scaled(parts=parts, speed=speed)) is not None


def least_speed(book, *, parts=1):
    check_positive(parts)
    # No job pushes a head further than over the room of the beam. So at this speed no head pushes
    # another one that can move at all in the time between, and greater speeds change nothing.
    enough = book.beam.room * parts
    if not can_be_done_with(book, parts, enough):
        return None
    least = 0
    while least < enough:
        middle = (least + enough) // 2
        if can_be_done_with(book, parts, middle):
            enough = middle
        else:
            least = middle + 1
    return least


def spare_room(book):
    if least_assignment(book) is None:
        raise NoAssignment()
    spare = 0
    most = book.beam.room // len(book.beam)
    while spare < most:
        middle = (spare + most + 1) // 2
        if least_assignment(book.wider(middle)) is not None:
            spare = middle
        else:
            most = middle - 1
    return spare
