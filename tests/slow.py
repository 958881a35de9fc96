"""Slow but plain answers, straight from the words of the document: tick by tick, dict by dict."""

import functools
import itertools

from beamheads.beams import Beam
from beamheads.books import Book
from beamheads.jobs import Job
from beamheads.lines import Line
from tests.helpers import right_places, small_beam, small_head, some_beam, some_speeds


def some_line(random, beam, first=-4, last=4, fastest=2, most_legs=3):
    """A line whose places lie near those of the beam."""
    legs = [(random.randint(1, 2), random.randint(-fastest, fastest)) for _ in range(random.randint(0, most_legs))]
    return Line(random.randint(first, last), random.randint(beam.left + 1, beam.right - 1), legs)


def some_book(random, many=None, jobs=None, most_room=4, fastest=3, kinds=("cut",), line_speed=1):
    """A book of up to three heads and jobs, the heads with some of the kinds."""
    beam = some_beam(random, many or random.randint(1, 3), most_room, fastest)
    heads = [small_head(head.name, head.left, head.right, random.sample(kinds, random.randint(1, len(kinds))),
                        head.speed, head.changes) for head in beam.heads]
    beam = Beam(beam.left, beam.right, *heads)
    many_jobs = random.randint(0, 3) if jobs is None else jobs
    return Book(beam, *[Job("pqrstuvw"[k], random.choice(kinds), some_line(random, beam, fastest=line_speed))
                        for k in range(many_jobs)])


def some_motion(random, beam, first, last):
    """The places of a motion at each tick, at random."""
    right = right_places(beam)
    places = {first: random.choice(right)}
    for step in range(first, last):
        places[step + 1] = random.choice(steps_between_places(beam, right, step)[places[step]])
    return places


def some_done_book(random, many=None, jobs=None, most_room=4, fastest=3, kinds=("cut",), ticks=4):
    """A book that has an assignment: its jobs follow the heads of some motion for up to three steps."""
    book = some_book(random, many, 0, most_room, fastest, kinds)
    places = some_motion(random, book.beam, -ticks, ticks)
    wanted = random.randint(1, 4) if jobs is None else jobs
    busy = []
    while len(book) < wanted:
        number = random.choice(numbers_of(book))
        first = random.randint(-ticks, ticks)
        last = min(ticks, first + random.randint(0, 3))
        if any(number == other and min(last, end) > max(first, begin) for other, begin, end in busy):
            continue
        corners = [(tick, places[tick][number - 1]) for tick in range(first, last + 1)]
        kind = random.choice(book.beam.head(number).kinds)
        book = book.with_job(Job("pqrstuvw"[len(book)], kind, Line.through(*corners)))
        busy.append((number, first, last))
    return book


def some_free_book(random, many=None, jobs=None, ticks=6):
    """A book with so much room that it often has many assignments, with many classes."""
    many = many or random.randint(2, 4)
    speeds = [some_speeds(random, 4, -ticks, ticks) if random.random() < 0.3 else (random.randint(1, 4), ())
              for _ in range(many)]
    beam = small_beam(many, random.choice([4, 8, 14]), speeds)
    heads = [head if random.random() < 0.8 else small_head(head.name, 1, 1, ["saw"], head.speed, head.changes)
             for head in beam.heads]
    beam = Beam(beam.left, beam.right, *heads)
    lines = [Line(random.randint(-ticks, ticks), random.randint(beam.left + many // 2, beam.right - many // 2),
                  [(random.randint(1, 2), random.randint(-1, 1))] * random.randint(0, 1))
             for _ in range(random.randint(2, 4) if jobs is None else jobs)]
    return Book(beam, *[Job("pqrstuvw"[k], "cut", line) for k, line in enumerate(lines)])


def numbers_of(book):
    return range(1, len(book.beam) + 1)


def ticks_of(line):
    return range(line.first, line.last + 1)


def steps_of(begin, end):
    """The steps of a way, in the sequence in which it goes."""
    return list(range(begin, end)) if begin < end else list(range(begin - 1, end - 1, -1))


def step_losses(beam, i, begin, end):
    """The least sums of all routes from head i, step by step: {head: least sum of a route that ends at most there}."""
    sums = {number: 0 for number in range(i, len(beam) + 1)}
    for step in steps_of(begin, end):
        sums = {number: min(sums[k] for k in range(i, number + 1)) + beam.speed_at(number, step) for number in sums}
    return {number: min(sums[k] for k in range(i, number + 1)) for number in sums}


def values_of(book, one, i, other, j):
    """The value of [41] for all ticks of both jobs."""
    beam, line, beside = book.beam, book.job(one).line, book.job(other).line
    reaches = sum(beam.head(k).right + beam.head(k + 1).left for k in range(i, j))
    found = {}
    for s, t in itertools.product(ticks_of(line), ticks_of(beside)):
        found[s, t] = line.at(s) + reaches - step_losses(beam, i, s, t)[j] - beside.at(t)
    return found


def slow_excess(book, one, i, other, j):
    return max(values_of(book, one, i, other, j).values())


def all_excesses(book):
    """The excesses of all pairs of jobs by all pairs of heads, with each loss found just once."""
    beam = book.beam
    ticks = sorted({tick for job in book.jobs for tick in ticks_of(job.line)})
    losses = {(i, s, t): step_losses(beam, i, s, t) for i in numbers_of(book) for s in ticks for t in ticks}
    reaches = [0] + [sum(beam.head(k).right + beam.head(k + 1).left for k in range(1, j)) for j in numbers_of(book)]
    found = {}
    for one, other in itertools.product(book.jobs, repeat=2):
        for i, j in itertools.combinations_with_replacement(numbers_of(book), 2):
            found[one.name, i, other.name, j] = reaches[j] - reaches[i] + max(
                one.line.at(s) - losses[i, s, t][j] - other.line.at(t)
                for s in ticks_of(one.line) for t in ticks_of(other.line))
    return found


def slow_misfit(book, name, number):
    beam, job = book.beam, book.job(name)
    head = beam.head(number)
    if job.kind not in head.kinds:
        return "kind"
    least = beam.left + sum(other.left + other.right for other in beam.heads[:number - 1]) + head.left
    greatest = beam.right - sum(other.left + other.right for other in beam.heads[number:]) - head.right
    if not all(least <= job.line.at(tick) <= greatest for tick in ticks_of(job.line)):
        return "range"
    for step in range(job.line.first, job.line.last):
        if abs(job.line.at(step + 1) - job.line.at(step)) > head.speed_at(step):
            return "speed"
    return None


def slow_compatible(book, excesses, one, i, other, j):
    if i != j:
        return excesses[(one, i, other, j) if i < j else (other, j, one, i)] <= 0
    shared = set(ticks_of(book.job(one).line)) & set(ticks_of(book.job(other).line))
    return len(shared) <= 1 and excesses[one, i, other, i] <= 0 and excesses[other, i, one, i] <= 0


class SlowBook:
    """Links, assignments and motions of a small book, found from all pairs, all dicts and all right places."""

    def __init__(self, book):
        self.book = book
        self.many = len(book.beam)
        self.names = [job.name for job in book.jobs]
        self.fits = {(name, number): slow_misfit(book, name, number) is None
                     for name in self.names for number in numbers_of(book)}
        excesses = all_excesses(book)
        self.compatible = {(one, i, other, j): slow_compatible(book, excesses, one, i, other, j)
                           for one, other in itertools.permutations(self.names, 2)
                           for i in numbers_of(book) for j in numbers_of(book)}
        self.nodes = [(name, number) for name in self.names for number in range(1, self.many + 2)]

    def word(self, node, following):
        """The word of the link between two nodes, from all pairs of heads."""
        (one, i), (other, j) = node, following
        if i > self.many:
            return None
        if one == other and j == i + 1:
            return None if self.fits[one, i] else "skip"
        if one == other:
            return "drop" if j == i - 1 else None
        if j < 2:
            return None
        pairs = [(k, m) for k in range(i, self.many + 1) for m in range(1, j)]
        return None if any(self.compatible[one, k, other, m] for k, m in pairs) else "push"

    @functools.cached_property
    def links(self):
        return {(node, following): self.word(node, following) for node in self.nodes for following in self.nodes
                if self.word(node, following)}

    @functools.cached_property
    def reached(self):
        """For each node all nodes to which chains lead from it."""
        found = {node: {node} for node in self.nodes}
        changed = True
        while changed:
            changed = False
            for node, following in self.links:
                for source in self.nodes:
                    if node in found[source] and following not in found[source]:
                        found[source].add(following)
                        changed = True
        return found

    def is_chain(self, value):
        return (isinstance(value, (list, tuple)) and 1 <= len(value) <= 400
                and all(node in self.nodes for node in value)
                and all(pair in self.links for pair in zip(value, value[1:])))

    @functools.cached_property
    def all_dicts(self):
        return [dict(zip(self.names, numbers))
                for numbers in itertools.product(numbers_of(self.book), repeat=len(self.names))]

    def is_right(self, numbers):
        return (all(self.fits[name, numbers[name]] for name in self.names)
                and all(self.compatible[one, numbers[one], other, numbers[other]]
                        for one, other in itertools.combinations(self.names, 2)))

    @functools.cached_property
    def assignments(self):
        return [numbers for numbers in self.all_dicts if self.is_right(numbers)]

    def least(self, chosen=None):
        """The jobwise least numbers of the assignments, or of those that are chosen."""
        found = self.assignments if chosen is None else chosen
        return {name: min(numbers[name] for numbers in found) for name in self.names} if found else None

    def greatest(self):
        return ({name: max(numbers[name] for numbers in self.assignments) for name in self.names}
                if self.assignments else None)


def steps_between_places(beam, right, step):
    """For all right places those that can be reached in one step."""
    speeds = [head.speed_at(step) for head in beam.heads]
    return {places: [others for others in right
                     if all(-speed <= new - old <= speed for new, old, speed in zip(others, places, speeds))]
            for places in right}


def possible_places(book, assignment, first, last, rows=()):
    """For each tick, all places that the heads have in some motion of the dict (that has these rows)."""
    right = right_places(book.beam)
    at_tick = {}
    for tick in range(first, last + 1):
        at_tick[tick] = {
            places for places in right
            if all(places[assignment[job.name] - 1] == job.line.at(tick) for job in book.jobs if tick in job.line)
            and all(places == others for row, others in rows if row == tick)}
    for tick in range(first, last):
        ways = steps_between_places(book.beam, right, tick)
        at_tick[tick + 1] &= {others for places in at_tick[tick] for others in ways[places]}
    for tick in range(last - 1, first - 1, -1):
        ways = steps_between_places(book.beam, right, tick)
        at_tick[tick] = {places for places in at_tick[tick] if at_tick[tick + 1].intersection(ways[places])}
    return at_tick


def window_of(book):
    """Two ticks between which all jobs and changes lie, with some ticks beside them."""
    ticks = [tick for job in book.jobs for tick in (job.line.first, job.line.last)]
    ticks += [tick for head in book.beam.heads for tick, _ in head.changes]
    return (min(ticks) - 2, max(ticks) + 2) if ticks else (-2, 2)


def has_motion(book, assignment):
    return bool(possible_places(book, assignment, *window_of(book))[window_of(book)[0]])
