"""Slow but plain answers about turn books, straight from the words of the document: tick by tick, copy by copy."""

import functools
import itertools

from beamheads.beams import Beam
from beamheads.heads import Head
from beamheads.jobs import Job
from beamheads.lines import Line
from beamheads.turnbooks import TurnBook
from tests.helpers import right_places
from tests.slow import step_losses, steps_between_places, ticks_of


class TurnBeam:
    """A beam whose heads have the speeds of the first turn in each turn; it has what step_losses asks for."""

    def __init__(self, book):
        self.beam, self.period = book.beam, book.period

    def __len__(self):
        return len(self.beam)

    @property
    def heads(self):
        return [TurnHead(head, self.period) for head in self.beam.heads]

    def speed_at(self, number, step):
        return self.heads[number - 1].speed_at(step)


class TurnHead:

    def __init__(self, head, period):
        self.head, self.period = head, period

    def speed_at(self, step):
        speed = self.head.speed
        for tick, following in self.head.changes:
            if tick <= step % self.period:
                speed = following
        return speed


def some_turn_book(random, heads=None, jobs=None, most_period=4, most_room=4, fastest=3, kinds=("cut",), legs=2):
    """A small turn book, whose lines are in the ranges of some heads, and often not too fast for them."""
    period = random.randint(1, most_period)
    made = []
    for k in range(heads or random.randint(1, 3)):
        ticks = sorted(random.sample(range(period), random.randint(0, min(3, period))))
        made.append(Head("abcde"[k], random.randint(1, 2), random.randint(1, 2),
                         random.sample(kinds, random.randint(1, len(kinds))), random.randint(0, fastest),
                         [(tick, random.randint(0, fastest)) for tick in ticks]))
    reach = sum(head.left + head.right for head in made)
    beam = Beam(-3, -3 + reach + random.randint(0, most_room), *made)
    many = random.randint(0, 3) if jobs is None else jobs
    return TurnBook(beam, period, *[Job("pqrst"[k], random.choice(kinds), some_turn_line(random, beam, period, legs))
                                    for k in range(many)])


def some_turn_line(random, beam, period, most_legs=2):
    """A line of at most so many ticks as the period, near the range of some head."""
    number = random.choice(numbers_of_beam(beam))
    least, greatest = beam.range_of(number)
    legs, left = [], period
    for _ in range(random.randint(0, most_legs)):
        if left:
            legs.append((random.randint(1, left), random.choice([-1, 0, 0, 1])))
            left -= legs[-1][0]
    return Line(random.randint(0, period - 1), random.randint(least, greatest), legs)


def some_done_turn_book(random, heads=None, jobs=None, **more):
    """A turn book with several jobs, each of which was put in beside the others (most of them can be done)."""
    book = some_turn_book(random, heads, 0, **more)
    kinds = sorted({kind for head in book.beam.heads for kind in head.kinds})
    wanted = random.randint(1, 3) if jobs is None else jobs
    for _ in range(20):
        if len(book) == wanted:
            break
        line = some_turn_line(random, book.beam, book.period)
        fuller = book.with_job(Job("pqrst"[len(book)], random.choice(kinds), line))
        if random.random() < 0.2 or slow_repeated(SlowTurns(fuller, 2)):
            book = fuller
    return book


def numbers_of_beam(beam):
    return range(1, len(beam) + 1)


def copied(book, name, turn):
    """Copy turn of a job, tick by tick: {tick: place}."""
    line = book.job(name).line
    return {tick + turn * book.period: line.at(tick) for tick in ticks_of(line)}


class SlowTurns:
    """Links and assignments of a turn book, for copies that are at most so many turns apart."""

    def __init__(self, book, far):
        self.book, self.far = book, far
        self.many = len(book.beam)
        self.names = [job.name for job in book.jobs]
        self.beam = TurnBeam(book)

    @functools.cache
    def losses(self, i, s, t):
        return step_losses(self.beam, i, s, t)

    @functools.cache
    def excess(self, one, i, other, j, turn):
        reaches = sum(self.book.beam.head(k).right + self.book.beam.head(k + 1).left for k in range(i, j))
        ahead, behind = copied(self.book, one, 0), copied(self.book, other, turn)
        return reaches + max(ahead[s] - self.losses(i, s, t)[j] - behind[t] for s in ahead for t in behind)

    @functools.cache
    def misfit(self, name, number):
        job, head = self.book.job(name), self.book.beam.head(number)
        if job.kind not in head.kinds:
            return "kind"
        least, greatest = self.book.beam.range_of(number)
        if not all(least <= job.line.at(tick) <= greatest for tick in ticks_of(job.line)):
            return "range"
        for step in range(job.line.first, job.line.last):
            if abs(job.line.at(step + 1) - job.line.at(step)) > self.beam.speed_at(number, step):
                return "speed"
        return None

    @functools.cache
    def compatible(self, one, i, other, j, turn):
        if i > j:
            return self.compatible(other, j, one, i, -turn)
        if i < j:
            return self.excess(one, i, other, j, turn) <= 0
        shared = set(copied(self.book, one, 0)) & set(copied(self.book, other, turn))
        return (len(shared) <= 1 and self.excess(one, i, other, i, turn) <= 0
                and self.excess(other, i, one, i, -turn) <= 0)

    def pushes(self, one, i, other, j, turn):
        """Whether the push leads from (one, i, 0) to (other, j, turn)."""
        pairs = itertools.product(range(i, self.many + 1), range(1, j))
        return j >= 2 and not any(self.compatible(one, k, other, m, turn) for k, m in pairs)

    def pushed_to(self, one, i, other, turn):
        return max([j for j in range(2, self.many + 2) if self.pushes(one, i, other, j, turn)], default=1)

    def is_link(self, node, following):
        (one, i, u), (other, j, v) = node, following
        if i > self.many:
            return False
        if one != other or u != v:
            return self.pushes(one, i, other, j, v - u)
        return j == i - 1 or j == i + 1 and self.misfit(one, i) is not None

    def is_node(self, value):
        return (type(value) is tuple and len(value) == 3 and value[0] in self.names
                and type(value[1]) is type(value[2]) is int and 1 <= value[1] <= self.many + 1)

    def is_chain(self, value):
        return (isinstance(value, (list, tuple)) and 1 <= len(value) <= 400
                and all(self.is_node(node) for node in value)
                and all(self.is_link(*pair) for pair in zip(value, value[1:])))

    def is_refusal(self, value):
        return self.is_chain(value) and value[0][1] == 1 and value[-1][1] == self.many + 1

    @property
    def all_dicts(self):
        return [dict(zip(self.names, numbers))
                for numbers in itertools.product(range(1, self.many + 1), repeat=len(self.names))]

    def is_right(self, rows):
        """Whether the dicts, one for each turn, are an assignment of the window."""
        copies = [(name, turn, row[name]) for turn, row in enumerate(rows) for name in row]
        return (all(self.misfit(name, number) is None for name, _, number in copies)
                and all(self.compatible(one, i, other, j, v - u)
                        for (one, u, i), (other, v, j) in itertools.combinations(copies, 2)))


def slow_repeated(slow):
    """All dicts whose copies, as many turns apart as told, are compatible."""
    return [numbers for numbers in slow.all_dicts if slow.is_right([numbers] * (slow.far + 1))]


def slow_windows(slow, many):
    """All assignments of a window."""
    found = [[]]
    for _ in range(many):
        found = [rows + [row] for rows in found for row in slow.all_dicts if slow.is_right(rows + [row])]
    return found


def least_rows(windows):
    """The least number of each copy over all assignments of a window."""
    return [{name: min(rows[turn][name] for rows in windows) for name in windows[0][turn]}
            for turn in range(len(windows[0]))]


def greatest_of(found, names):
    return {name: max(numbers[name] for numbers in found) for name in names} if found else None


def least_of(found, names):
    return {name: min(numbers[name] for numbers in found) for name in names} if found else None


def places_in_turns(book, numbers, first, last):
    """For each tick, all places of some motion that does all copies of the jobs that lie between the two ticks."""
    right = right_places(book.beam)
    beam = TurnBeam(book)
    turns = range(first // book.period - 2, last // book.period + 2)
    rows = [(numbers[name] - 1, copied(book, name, turn)) for name in numbers for turn in turns]
    at_tick = {tick: {places for places in right
                      if all(tick not in row or places[at] == row[tick] for at, row in rows)}
               for tick in range(first, last + 1)}
    for tick in range(first, last):
        ways = steps_between_places(beam, right, tick)
        at_tick[tick + 1] &= {others for places in at_tick[tick] for others in ways[places]}
    for tick in range(last - 1, first - 1, -1):
        ways = steps_between_places(beam, right, tick)
        at_tick[tick] = {places for places in at_tick[tick] if at_tick[tick + 1].intersection(ways[places])}
    return at_tick
