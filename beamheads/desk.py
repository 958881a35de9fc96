"""Desks: a book that changes deed by deed, with as few changes of heads as possible."""

from beamheads.assignments import refusal
from beamheads.books import Book, check_beam
from beamheads.checks import check_count
from beamheads.choices import assignment_with
from beamheads.commands import command_parts
from beamheads.errors import InvalidCommand, NothingToUndo, Refused, TooMany
from beamheads.heads import Head
from beamheads.motions import lowest_places
from beamheads.prices import fewest_changes
from beamheads.spaces import free_places


def check_limit(limit):
    if limit is not None:
        check_count(limit)


def done(changes):
    return f"done {changes}"


def answer_put(desk, job):
    return done(desk.put(job))


def answer_drop(desk, name):
    return done(desk.drop(name))


def answer_exchange(desk, head):
    beam = desk.book.beam
    kinds = beam.head(beam.number_of(head.name)).kinds
    return done(desk.exchange(Head(head.name, head.left, head.right, kinds, head.speed, head.changes)))


def answer_undo(desk):
    desk.undo()
    return done(0)


def answer_limit(desk, limit):
    desk.set_limit(limit)
    return done(0)


def answer_who(desk):
    assignment = desk.assignment
    return ", ".join([f"{name} {assignment[name]}" for name in assignment]) if assignment else "nobody"


def answer_where(desk, tick):
    return " ".join([str(place) for place in desk.where(tick)])


def answer_may(desk, name):
    heads = desk.may(name)
    return " ".join(heads) if heads else "nobody"


def answer_free(desk, name, tick):
    spaces = desk.free(name, tick)
    return ", ".join([f"{first} to {last}" for first, last in spaces]) if spaces else "none"


ANSWERS = {
    "put": answer_put,
    "drop": answer_drop,
    "exchange": answer_exchange,
    "undo": answer_undo,
    "limit": answer_limit,
    "who": answer_who,
    "where": answer_where,
    "may": answer_may,
    "free": answer_free,
}


class State:
    """What a desk holds at one time; it does not change."""

    def __init__(self, plan, numbers, most, past, fixed):
        """Past are tuples (deed, plan and numbers before it); the first ones of them, so many as fixed, stay."""
        self.plan = plan
        self.numbers = numbers
        self.most = most
        self.past = past
        self.fixed = fixed


class Held:
    """A state that is kept, and the one that was kept before it."""

    def __init__(self, state, earlier):
        self.state = state
        self.earlier = earlier


class Trial:
    """A context in which all is tried: behind it the desk is as it was."""

    def __init__(self, desk):
        self._desk = desk
        self._held = None

    def __enter__(self):
        state = self._desk.state
        self._held = Held(state, self._held)
        self._desk.state = State(state.plan, state.numbers, state.most, state.past, len(state.past))
        return self._desk

    def __exit__(self, kind, value, trace):
        self._desk.state = self._held.state
        self._held = self._held.earlier


class Desk:
    """A book and the present assignment of it."""

    def __init__(self, beam, *, limit=None):
        check_beam(beam)
        check_limit(limit)
        self.state = State(Book(beam), {}, limit, (), 0)

    def __eq__(self, other):
        return (isinstance(other, Desk) and self.state.plan == other.state.plan
                and self.state.numbers == other.state.numbers and self.state.most == other.state.most
                and self.state.past == other.state.past)

    @property
    def book(self):
        return self.state.plan

    @property
    def assignment(self):
        return {name: self.state.numbers[name] for name in self.state.numbers}

    @property
    def limit(self):
        return self.state.most

    @limit.setter
    def limit(self, value):
        check_limit(value)
        state = self.state
        self.state = State(state.plan, state.numbers, value, state.past, state.fixed)

    def set_limit(self, limit):
        self.limit = limit

    def _done(self, deed, book):
        """The number of changes of this deed, which leads to this book; then it is done."""
        chain = refusal(book)
        if chain is not None:
            raise Refused(chain)
        state = self.state
        wanted = {name: state.numbers[name] for name in state.numbers if name in book}
        numbers, changes = fewest_changes(book, wanted)
        if state.most is not None and changes > state.most:
            raise TooMany("changes", state.most)
        past = state.past + ((deed, state.plan, state.numbers),)
        self.state = State(book, numbers, state.most, past, state.fixed)
        return changes

    def put(self, job):
        book = self.book.with_job(job)
        return self._done(("put", job.name), book)

    def drop(self, name):
        book = self.book.without(name)
        return self._done(("drop", name), book)

    def exchange(self, head):
        book = self.book.with_beam(self.book.beam.with_head(head))
        return self._done(("exchange", head.name), book)

    def undo(self):
        state = self.state
        if len(state.past) == state.fixed:
            raise NothingToUndo()
        _, plan, numbers = state.past[-1]
        self.state = State(plan, numbers, state.most, state.past[:-1], state.fixed)

    def log(self):
        return [row[0] for row in self.state.past]

    def where(self, tick):
        return lowest_places(self.book, self.assignment, tick)

    def may(self, name):
        heads = self.book.beam.heads
        return [head.name for at, head in enumerate(heads) if assignment_with(self.book, name, at + 1) is not None]

    def free(self, name, tick):
        return free_places(self.book, self.book.beam.number_of(name), tick)

    def trial(self):
        return Trial(self)

    def do(self, command):
        parts = command_parts(command)
        if parts is None:
            raise InvalidCommand(command)
        word, *given = parts
        find_answer = ANSWERS[word]
        return find_answer(self, *given)

    def do_all(self, *commands):
        state = self.state
        try:
            answers = [self.do(command) for command in commands]
            state = self.state
        finally:
            self.state = state
        return answers

    def try_all(self, *commands):
        with self.trial():
            return [self.do(command) for command in commands]


def tried(desk, *jobs):
    rows = []
    with desk.trial():
        for job in jobs:
            desk.put(job)
            rows.append(desk.assignment)
    return rows
