"""Bounds: how far the line of a head pushes this head, and those right of it, at other ticks."""

from beamheads.lines import Line


def ticks_on(course, line):
    """The ticks of a line at which something turns: its corners, and the changes of speeds within it."""
    return [corner[0] for corner in line.corners()] + course.changing_ticks(line.first, line.last)


def turning_ticks(course, line, other):
    """The ticks at which one of two lines, or a speed within them, turns, ascending."""
    return sorted(set(ticks_on(course, line) + ticks_on(course, other)))


def raised(row, many, place):
    """The bounds, none of them less than the place; so many at the place where there are none yet."""
    return [max(bound, place) for bound in row] if row else [place] * many


def one_way(course, number, line, other, ticks):
    """For each of these ticks that the other line has, by how much the bounds are beyond its place.

    The ticks go one way, and the first one is a tick of the line. Between two of them nothing turns but
    speeds away from both lines, so that no other ticks of the lines bind any more.
    """
    rows = []
    row = []
    before = None
    for tick in ticks:
        if before is not None:
            row = course.passed(row, number, before, tick)
        if tick in line:
            row = raised(row, len(course.beam) + 1 - number, line.at(tick))
        if tick in other:
            place = other.at(tick)
            rows.append([bound - place for bound in row])
        before = tick
    return rows


def excesses(course, number, line, other):
    """The excesses of a line by the head with this number and of another line by each head from it on."""
    ticks = turning_ticks(course, line, other)
    rows = one_way(course, number, line, other, [tick for tick in ticks if line.first <= tick <= other.last])
    rows = rows + one_way(course, number, line, other,
                          [tick for tick in ticks if other.first <= tick <= line.last][::-1])
    # Heads that are packed have exactly their distances.
    least = course.beam.packed()[number - 1:]
    beyond = [max(column) for column in zip(*rows)]
    return [most + place - least[0] for most, place in zip(beyond, least)]


def least_by(course, number, line, tick):
    """The least places at a tick of the heads from this number on, if this head is on the line."""
    return excesses(course, number, line, Line(tick, 0))


def lowest_at(course, demands, tick):
    """The least places at a tick in any motion that does what is demanded, as tuples (number, line)."""
    lowest = list(course.beam.packed())
    for number, line in demands:
        for at, place in enumerate(least_by(course, number, line, tick)):
            lowest[number - 1 + at] = max(lowest[number - 1 + at], place)
    return tuple(lowest)


def greatest_by(course, number, line, tick, other):
    """The greatest place at a tick of the head with the other number, from which it does not push beyond the line."""
    return -excesses(course, other, Line(tick, 0), line)[number - other]


def highest_at(course, demands, tick):
    """The greatest places at a tick in any motion that does what is demanded, as tuples (number, line)."""
    highest = list(course.beam.packed(to_right=True))
    for number, line in demands:
        for other in range(1, number + 1):
            highest[other - 1] = min(highest[other - 1], greatest_by(course, number, line, tick, other))
    return tuple(highest)
