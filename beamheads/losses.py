"""Losses: by how much a place of one head binds that of another one less, at another tick."""

from beamheads.checks import check_head_number, check_integer, is_list, is_pair


def check_ends(beam, i, begin, j, end):
    check_head_number(i, len(beam))
    check_integer(begin)
    check_head_number(j, len(beam), i)
    check_integer(end)


def stretches(heads, begin, end):
    """Tuples (low, high) of ticks in the sequence of the way, between which no head changes its speed."""
    low = min(begin, end)
    high = max(begin, end)
    changes = [change[0] for head in heads for change in head.changes]
    ticks = [low] + sorted(set([tick for tick in changes if low < tick < high])) + [high]
    parts = [(before, after) for before, after in zip(ticks, ticks[1:]) if before < after]
    return parts if begin <= end else parts[::-1]


def running_least(values):
    """The least of the first value, of the first two values, and so on."""
    least = []
    for value in values:
        least.append(min(value, least[-1]) if least else value)
    return least


def sum_rows(heads, parts):
    """For each part, the least sum up to its end for each head that is the last one."""
    # Within a part no speed changes, so that no route is better for changing its head there.
    rows = []
    sums = [0] * len(heads)
    for low, high in parts:
        before = running_least(sums)
        sums = [least + (high - low) * head.speed_at(low) for least, head in zip(before, heads)]
        rows.append(sums)
    return rows


def losses_from(beam, i, begin, end):
    """The losses from head i at begin to each head, from i on, at end."""
    heads = beam.heads[i - 1:]
    rows = sum_rows(heads, stretches(heads, begin, end))
    return running_least(rows[-1]) if rows else [0] * len(heads)


def loss(beam, i, begin, j, end):
    check_ends(beam, i, begin, j, end)
    return losses_from(beam, i, begin, end)[j - i]


def least_route(beam, i, begin, j, end):
    check_ends(beam, i, begin, j, end)
    heads = beam.heads[i - 1:j]
    parts = stretches(heads, begin, end)
    rows = sum_rows(heads, parts)
    last = len(heads) - 1
    route = []
    for (low, high), sums in zip(parts[::-1], rows[::-1]):
        last = sums.index(min(sums[:last + 1]))
        route.append((i + last, high if begin < end else low))
    return route[::-1]


def is_route(value, i, begin, j, end):
    if not is_list(value):
        return False
    way = 1 if begin < end else -1
    at = begin
    least = i
    for entry in value:
        if not is_pair(entry) or not least <= entry[0] <= j or (entry[1] - at) * way <= 0:
            return False
        least, at = entry
    return at == end


def speed_sum(head, begin, end):
    """The sum of the speeds of the head in the steps between the two ticks."""
    return sum([(high - low) * head.speed_at(low) for low, high in stretches([head], begin, end)])


def route_sum(beam, i, begin, j, end, value):
    check_ends(beam, i, begin, j, end)
    if not is_route(value, i, begin, j, end):
        return None
    total = 0
    at = begin
    for number, tick in value:
        total = total + speed_sum(beam.head(number), at, tick)
        at = tick
    return total
