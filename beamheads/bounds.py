"""Bounds: how far the line of a head pushes this head, and those right of it, at other ticks."""


def useful_ticks(beam, lines, more=()):
    """The ticks at which something turns, ascending: corners of the lines, changes of speed, and more."""
    ticks = [corner[0] for line in lines for corner in line.corners()]
    changes = [change[0] for head in beam.heads for change in head.changes]
    return sorted(set(ticks + changes + list(more)))


def running_greatest(values):
    """The greatest of the first value, of the first two values, and so on."""
    greatest = []
    for value in values:
        greatest.append(max(value, greatest[-1]) if greatest else value)
    return greatest


def passed_on(heads, row, low, high):
    """The bounds at one end of steps in which no speed changes, from the bounds at the other end."""
    return running_greatest([bound - (high - low) * head.speed_at(low) for bound, head in zip(row, heads)])


def one_way(heads, line, ticks):
    """The bounds at each of these ticks, which go one way from an end of the line, by the line up to there."""
    rows = {}
    row = [line.at(ticks[0])] * len(heads)
    for before, tick in zip(ticks[:1] + ticks, ticks):
        row = passed_on(heads, row, min(before, tick), max(before, tick))
        if tick in line:
            row = [max(bound, line.at(tick)) for bound in row]
        rows[tick] = row
    return rows


def bounds_from(beam, number, line, ticks):
    """For each tick, and each head from this number on: the greatest place of the line less the loss from it.

    The ticks are ascending, and all corners of the line and all changes are among them: between two
    of them nothing turns, so that no other tick of the line pushes any head further.
    """
    heads = beam.heads[number - 1:]
    forward = one_way(heads, line, [tick for tick in ticks if tick >= line.first])
    backward = one_way(heads, line, [tick for tick in ticks if tick <= line.last][::-1])
    bounds = {}
    for tick in ticks:
        rows = [way[tick] for way in (forward, backward) if tick in way]
        bounds[tick] = [max(pair) for pair in zip(*rows)]
    return bounds
