from random import Random
import unittest

from beamheads.assignments import is_refusal
from beamheads.beams import Beam
from beamheads.books import Book
from beamheads.choices import assignment_with
from beamheads.desk import Desk, tried
from beamheads.errors import (BeamTooShort, InvalidBeam, InvalidCommand, InvalidHead, InvalidJob, InvalidNumber,
                              NameTaken, NothingToUndo, Refused, TooMany, UnknownHead, UnknownJob)
from beamheads.heads import Head
from beamheads.jobs import Job
from beamheads.lines import Line
from beamheads.motions import lowest_places
from beamheads.spaces import free_places
from tests.helpers import ANYTHING, FAR, NO_COUNTS, NO_INTEGERS, NO_NAMES, ErrorCase, small_beam
from tests.slow import SlowBook

BEAM = Beam(0, 20, Head("a", 1, 1, ["cut"], 2), Head("b", 1, 1, ["cut", "saw"], 1))
X = Job("x", "cut", Line(0, 10))
Y = Job("y", "saw", Line(3, 9, [(2, 1)]))
Z = Job("z", "cut", Line(0, 11))
# Head a is fast enough for both x and w, but it is not if it is slower.
W = Job("w", "cut", Line(1, 12))
SLOW = Head("a", 1, 1, ["cut"], 1)
NO_JOBS = [None, True, 0, "x", [], [X], (X,), BEAM, BEAM.heads[0], Line(0, 0), Job, ANYTHING]
NO_BEAMS = NO_INTEGERS + [0, "beam", BEAM.heads[0], Book(BEAM), X, Beam, ANYTHING]


def state_of(desk):
    """All that a desk tells of itself, as a value that can be compared."""
    return repr((desk.book, desk.assignment, desk.limit, desk.log()))


class StuckCase(ErrorCase):

    def refuses_deed(self, desk, book, deed, *args):
        """The deed is refused with a refusal of the book that would be, and nothing changes."""
        before = state_of(desk)
        with self.assertRaises(Refused) as caught:
            deed(*args)
        self.assertTrue(is_refusal(book, caught.exception.chain))
        self.assertTrue(SlowBook(book).is_chain(caught.exception.chain))
        self.assertEqual(state_of(desk), before)

    def keeps(self, desk, error, call, *args, **kwargs):
        """The call raises the error, and nothing changes."""
        before = state_of(desk)
        self.fails(error, call, *args, **kwargs)
        self.assertEqual(state_of(desk), before)


class SlowDesk:
    """The book and the present assignment, from all assignments of each book."""

    def __init__(self, beam):
        self.book, self.numbers = Book(beam), {}

    def best(self, book):
        """The number of changes and the assignment of the book that would be, or None."""
        rows = [(sum(numbers[name] != self.numbers.get(name, numbers[name]) for name in numbers), numbers)
                for numbers in SlowBook(book).assignments]
        if not rows:
            return None
        fewest = min(count for count, _ in rows)
        chosen = [numbers for count, numbers in rows if count == fewest]
        return fewest, {name: min(numbers[name] for numbers in chosen) for name in chosen[0]}

    def done(self, book):
        count, self.numbers = self.best(book)
        self.book = book
        return count


class TestDeeds(StuckCase):

    def some_deed(self, random, desk, beam):
        """A deed at random: (method, argument, book that would be), or None."""
        book = desk.book
        word = random.choice(["put", "put", "put", "drop", "exchange"])
        if word == "drop" and len(book):
            name = random.choice(book.names())
            return desk.drop, name, book.without(name)
        if word == "exchange":
            old = random.choice(beam.heads)
            head = Head(old.name, random.randint(1, 2), random.randint(1, 2), random.choice([["cut"], ["cut", "saw"]]),
                        random.randint(0, 3), [(random.randint(-3, 3), random.randint(0, 2))])
            try:
                return desk.exchange, head, book.with_beam(book.beam.with_head(head))
            except BeamTooShort:
                return None
        names = [name for name in "pqrs" if name not in book]
        if not names:
            return None
        name = random.choice(names)
        line = Line(random.randint(-5, 5), random.randint(beam.left + 1, beam.right - 1),
                    [(random.randint(1, 2), random.randint(-1, 1))] * random.randint(0, 1))
        job = Job(name, random.choice(["cut", "cut", "saw"]), line)
        return desk.put, job, book.with_job(job)

    def test_against_all_assignments(self):
        counts = []
        for seed in range(100):
            random = Random(930 + seed)
            beam = small_beam(random.randint(2, 3), random.randint(4, 9),
                              [(random.randint(0, 3), ()) for _ in range(3)])
            desk, slow = Desk(beam), SlowDesk(beam)
            for _ in range(14):
                found = self.some_deed(random, desk, beam)
                if found is None:
                    continue
                method, argument, book = found
                best = slow.best(book)
                if best is None:
                    self.refuses_deed(desk, book, method, argument)
                    counts.append("refused")
                    continue
                desk.limit = random.choice([None, 0, 1, best[0], best[0] + 1])
                if desk.limit is not None and best[0] > desk.limit:
                    self.keeps(desk, TooMany("changes", desk.limit), method, argument)
                    counts.append("limit")
                    continue
                self.same(method(argument), slow.done(book))
                counts.append(best[0])
                self.assertEqual(desk.book, book)
                self.same(desk.assignment, slow.numbers)
        self.assertGreater(min(counts.count(what) for what in ("refused", "limit", 0, 1)), 4)
        self.assertGreater(max(count for count in counts if isinstance(count, int)), 1)

    def test_in_numbers(self):
        desk = Desk(BEAM)
        self.same([desk.put(X), desk.assignment, desk.put(Y), desk.assignment], [0, {"x": 1}, 0, {"x": 1, "y": 2}])
        self.refuses_deed(desk, desk.book.with_job(Z), desk.put, Z)
        self.same([desk.drop("x"), desk.assignment], [0, {"y": 2}])
        self.refuses_deed(desk, desk.book.with_job(W), desk.put, W)
        self.same([desk.drop("y"), desk.put(W), desk.put(X), desk.assignment], [0, 0, 0, {"w": 1, "x": 1}])
        # Head a is no longer fast enough for both x and w.
        self.same([desk.exchange(SLOW), desk.assignment], [1, {"w": 2, "x": 1}])
        self.same(desk.log(), [("put", "x"), ("put", "y"), ("drop", "x"), ("drop", "y"), ("put", "w"), ("put", "x"),
                               ("exchange", "a")])

    def test_limits_just_reached_and_gone_beyond(self):
        for limit, right in [(None, True), (0, False), (1, True), (2, True), (FAR, True)]:
            desk = Desk(BEAM, limit=limit)
            desk.put(X)
            desk.put(W)
            if right:
                self.same([desk.exchange(SLOW), desk.assignment], [1, {"w": 2, "x": 1}])
            else:
                self.keeps(desk, TooMany("changes", limit), desk.exchange, SLOW)
        desk = Desk(BEAM, limit=1)
        desk.put(X)
        desk.put(W)
        desk.exchange(SLOW)
        desk.set_limit(0)
        desk.undo()
        self.same([desk.assignment, desk.limit], [{"w": 1, "x": 1}, 0])
        # A refusal comes before the limit.
        self.refuses_deed(desk, desk.book.with_job(Z), desk.put, Z)

    def test_a_job_with_a_head_of_its_choice_stays_with_it(self):
        desk = Desk(BEAM)
        self.same([desk.put(X), desk.put(W), desk.exchange(SLOW)], [0, 0, 1])
        self.same([desk.exchange(BEAM.heads[0]), desk.assignment], [0, {"w": 2, "x": 1}])
        self.same([desk.drop("w"), desk.put(W), desk.assignment], [0, 0, {"w": 1, "x": 1}])

    def test_eight_jobs_and_the_ninth(self):
        desk = Desk(BEAM)
        for at, name in enumerate("pqrstuvw"):
            self.same(desk.put(Job(name, "cut", Line(100 * at, 9))), 0)
        self.keeps(desk, TooMany("jobs", 8), desk.put, X)
        self.keeps(desk, NameTaken("p"), desk.put, Job("p", "cut", Line(0, 0)))
        self.same(desk.drop("p"), 0)
        self.same(desk.put(X), 0)

    def test_undo_and_log(self):
        desk = Desk(BEAM)
        states = [state_of(desk)]
        for deed, argument in [(desk.put, X), (desk.put, Y), (desk.exchange, Head("b", 1, 1, ["cut", "saw"], 5)),
                               (desk.drop, "x"), (desk.put, Z)]:
            deed(argument)
            states.append(state_of(desk))
        while len(states) > 1:
            self.assertEqual(state_of(desk), states.pop())
            self.assertIsNone(desk.undo())
        self.assertEqual(state_of(desk), states[0])
        for _ in range(2):
            self.keeps(desk, NothingToUndo(), desk.undo)
        desk.put(Y)
        self.same(desk.log(), [("put", "y")])

    def test_a_deed_that_was_refused_is_not_taken_back(self):
        desk = Desk(BEAM)
        desk.put(X)
        self.refuses_deed(desk, desk.book.with_job(Z), desk.put, Z)
        desk.undo()
        self.same([desk.assignment, desk.log()], [{}, []])

    def test_two_hundred_deeds(self):
        desk = Desk(BEAM)
        for at in range(50):
            desk.put(X)
            desk.put(Y)
            desk.drop("x")
            desk.undo()
            desk.undo()
            desk.undo()
        self.same([desk.log(), desk.assignment], [[], {}])


class TestProperties(StuckCase):

    def test_new_desks(self):
        for desk in (Desk(BEAM), Desk(beam=BEAM, limit=None)):
            self.assertEqual(desk.book, Book(BEAM))
            self.same([desk.assignment, desk.limit, desk.log()], [{}, None, []])
        self.same([Desk(BEAM, limit=limit).limit for limit in (0, 1, FAR)], [0, 1, FAR])
        self.assertRaises(TypeError, Desk, BEAM, 1)

    def test_new_values(self):
        desk = Desk(BEAM)
        desk.put(job=X)
        desk.assignment.clear()
        desk.log().clear()
        desk.may("x").clear()
        desk.free("a", 0).clear()
        self.same([desk.assignment, desk.log(), desk.may(name="x")], [{"x": 1}, [("put", "x")], ["a", "b"]])
        self.same([desk.free(tick=0, name="a"), desk.where(tick=0)], [[(1, 8), (10, 10)], (10, 12)])
        self.same([desk.exchange(head=BEAM.heads[0]), desk.drop(name="x")], [0, 0])
        self.refuses(desk, "book", "assignment")

    def test_the_limit_is_assigned(self):
        desk = Desk(BEAM)
        for limit in (3, 0, None, FAR):
            desk.limit = limit
            self.same(desk.limit, limit)
            self.assertIsNone(desk.set_limit(7))
            self.same(desk.limit, 7)
            self.assertIsNone(desk.set_limit(limit=limit))
            self.same(desk.limit, limit)
        for value in NO_COUNTS:
            if value is not None:
                self.keeps(desk, InvalidNumber(value), desk.set_limit, value)
                self.keeps(desk, InvalidNumber(value), setattr, desk, "limit", value)
                self.fails(InvalidNumber(value), Desk, BEAM, limit=value)

    def test_equality(self):
        desk, other = Desk(BEAM), Desk(BEAM)
        self.assertEqual(desk, other)
        for change in (lambda one: one.put(X), lambda one: one.set_limit(3), lambda one: one.put(Y)):
            change(desk)
            self.assertNotEqual(desk, other)
            change(other)
            self.assertEqual(desk, other)
        desk.drop("y")
        desk.put(Y)
        self.assertNotEqual(desk, other)
        self.assertNotEqual(desk, desk.book)
        self.assertNotEqual(Desk(BEAM), Desk(BEAM.moved(1)))

    def test_where_may_and_free(self):
        random = Random(931)
        desk = Desk(small_beam(3, 12, [(2, ()), (1, ()), (1, ())]))
        for at, name in enumerate("pqr"):
            desk.put(Job(name, "cut", Line(3 * at, random.randint(2, 12))))
            for tick in (-FAR, -2, 0, 1, 5, FAR):
                self.same(desk.where(tick), lowest_places(desk.book, desk.assignment, tick))
                for number, head in enumerate("abc", 1):
                    self.same(desk.free(head, tick), free_places(desk.book, number, tick))
            for job in desk.book.names():
                self.same(desk.may(job), [head for number, head in enumerate("abc", 1)
                                          if assignment_with(desk.book, job, number) is not None])


class TestWrong(StuckCase):

    def test_new_desks(self):
        for value in NO_BEAMS:
            self.fails(InvalidBeam(value), Desk, value)
            self.fails(InvalidBeam(value), Desk, value, limit=-1)

    def test_deeds(self):
        desk = Desk(BEAM, limit=0)
        desk.put(X)
        desk.put(Y)
        for value in NO_JOBS:
            self.keeps(desk, InvalidJob(value), desk.put, value)
        self.keeps(desk, NameTaken("x"), desk.put, Job("x", "cut", Line(0, 99)))
        for value in NO_NAMES + ["w", "a", "cut"]:
            self.keeps(desk, UnknownJob(value), desk.drop, value)
            self.keeps(desk, UnknownJob(value), desk.may, value)
        for value in [None, True, 0, "a", X, BEAM, [BEAM.heads[0]], Head, ANYTHING]:
            self.keeps(desk, InvalidHead(value), desk.exchange, value)
        self.keeps(desk, UnknownHead("c"), desk.exchange, Head("c", 99, 99, ["cut"], 1))
        self.keeps(desk, BeamTooShort(2), desk.exchange, Head("b", 9, 11, ["none"], 1))
        self.refuses_deed(desk, desk.book.with_beam(BEAM.with_head(Head("b", 9, 9, ["none"], 1))), desk.exchange,
                          Head("b", 9, 9, ["none"], 1))

    def test_what_is_asked(self):
        desk = Desk(BEAM)
        desk.put(X)
        for value in NO_INTEGERS:
            self.keeps(desk, InvalidNumber(value), desk.where, value)
            self.keeps(desk, InvalidNumber(value), desk.free, "a", value)
        for value in NO_NAMES + ["x", "c", "cut"]:
            self.keeps(desk, UnknownHead(value), desk.free, value, 0)
            self.keeps(desk, UnknownHead(value), desk.free, value, None)


class TestTrials(StuckCase):

    def test_all_is_as_it_was(self):
        desk = Desk(BEAM, limit=4)
        desk.put(X)
        before = state_of(desk)
        with desk.trial() as given:
            self.assertIs(given, desk)
            desk.put(Y)
            desk.limit = 0
            desk.drop("x")
            self.same([desk.log(), desk.limit], [[("put", "x"), ("put", "y"), ("drop", "x")], 0])
        self.assertEqual(state_of(desk), before)
        desk.undo()
        self.same(desk.log(), [])

    def test_errors_go_on(self):
        desk = Desk(BEAM)
        desk.put(X)
        before = state_of(desk)
        for error in (KeyError("k"), ValueError("v"), UnknownJob("w")):
            with self.assertRaises(type(error)) as caught:
                with desk.trial():
                    desk.put(Y)
                    raise error
            self.assertIs(caught.exception, error)
            self.assertEqual(state_of(desk), before)
        with self.assertRaises(Refused):
            with desk.trial():
                desk.put(Y)
                desk.put(Z)
        self.assertEqual(state_of(desk), before)

    def test_nothing_is_undone_that_was_done_before(self):
        desk = Desk(BEAM)
        desk.put(X)
        with desk.trial():
            self.keeps(desk, NothingToUndo(), desk.undo)
            desk.put(Y)
            desk.undo()
            self.keeps(desk, NothingToUndo(), desk.undo)
            self.same(desk.log(), [("put", "x")])
        desk.undo()
        self.keeps(desk, NothingToUndo(), desk.undo)

    def test_trials_within_trials(self):
        desk = Desk(BEAM)
        desk.put(X)
        states = [state_of(desk)]
        with desk.trial():
            desk.put(Y)
            states.append(state_of(desk))
            with desk.trial():
                self.keeps(desk, NothingToUndo(), desk.undo)
                desk.drop("x")
                desk.limit = 3
                with self.assertRaises(UnknownJob):
                    with desk.trial():
                        desk.put(Z)
                        desk.drop("w")
                self.same([desk.log()[-1], desk.limit], [("drop", "x"), 3])
            self.assertEqual(state_of(desk), states.pop())
            desk.undo()
            self.keeps(desk, NothingToUndo(), desk.undo)
        self.assertEqual(state_of(desk), states.pop())

    def test_a_trial_begins_with_its_with_statement(self):
        desk = Desk(BEAM)
        trial = desk.trial()
        desk.put(X)
        before = state_of(desk)
        for _ in range(2):
            with trial:
                desk.put(Y)
            self.assertEqual(state_of(desk), before)
        with trial:
            desk.put(Y)
            within = state_of(desk)
            with trial:
                desk.drop("x")
            self.assertEqual(state_of(desk), within)
        self.assertEqual(state_of(desk), before)

    def test_return_and_break(self):
        desk = Desk(BEAM)
        desk.put(X)
        before = state_of(desk)

        def names():
            with desk.trial():
                desk.put(Y)
                return desk.book.names()

        self.same(names(), ["x", "y"])
        for _ in range(2):
            with desk.trial():
                desk.put(Y)
                break
        self.assertEqual(state_of(desk), before)

    def test_tried(self):
        desk = Desk(BEAM)
        desk.put(X)
        before = state_of(desk)
        self.same([tried(desk), tried(desk, Y)], [[], [{"x": 1, "y": 2}]])
        w = Job("w", "cut", Line(90, 9))
        self.same(tried(desk, w, Y), [{"w": 1, "x": 1}, {"w": 1, "x": 1, "y": 2}])
        self.assertEqual(state_of(desk), before)
        for jobs, error in [((Y, X), NameTaken("x")), ((Y, None), InvalidJob(None)), ((Y, Y), NameTaken("y"))]:
            self.keeps(desk, error, tried, desk, *jobs)
        self.refuses_deed(desk, desk.book.with_job(Y).with_job(Z), tried, desk, Y, Z)
        with desk.trial():
            desk.put(w)
            self.same(tried(desk, Y), [{"w": 1, "x": 1, "y": 2}])
            self.same(desk.book.names(), ["w", "x"])


class TestCommands(StuckCase):

    def test_each_command(self):
        desk = Desk(BEAM)
        for command, answer in [
                ("who", "nobody"), ("where 0", "1 3"), ("free a 0", "1 to 17"), ("limit 0", "done 0"),
                ("put x cut 0 10", "done 0"), ("who", "x 1"), ("put y saw 3 9 2 1", "done 0"), ("who", "x 1, y 2"),
                ("where 0", "10 12"), ("where -5", "1 7"), ("may x", "a b"), ("may y", "b"),
                ("free a 0", "1 to 8, 10 to 10"), ("free b 3", "9 to 9"), ("drop y", "done 0"), ("undo", "done 0"),
                ("who", "x 1, y 2"), ("limit none", "done 0"), ("drop y", "done 0"), ("put w cut 1 12", "done 0"),
                ("exchange a 1 1 1", "done 1"), ("who", "w 2, x 1"), ("may x", "a"), ("undo", "done 0"),
                ("undo", "done 0"), ("exchange a 1 1 2 -3 0 5 0 9 1", "done 0"), ("limit 12", "done 0")]:
            self.same(desk.do(command), answer)
        self.same(desk.limit, 12)
        self.assertEqual(desk.book.beam.heads[0], Head("a", 1, 1, ["cut"], 2, [(-3, 0), (9, 1)]))
        self.same(desk.log(), [("put", "x"), ("put", "y"), ("drop", "y"), ("exchange", "a")])
        self.same(desk.do(command="drop x"), "done 0")

    def test_answers_are_those_of_the_methods(self):
        random = Random(941)
        desk, other = Desk(small_beam(3, 14, [(3, ()), (2, ()), (1, ())])), Desk(small_beam(3, 14, [(3, ()), (2, ()), (1, ())]))
        for _ in range(60):
            name, tick, place = random.choice("pqrs"), random.randint(-5, 5), random.randint(-2, 14)
            job = Job(name, "cut", Line(tick, place, [(2, 1), (1, 1)]))
            for command, method, argument in random.choice([
                    [(f"put {name} cut {tick} {place} 2 1 1 1", other.put, job)], [(f"drop {name}", other.drop, name)],
                    [(f"limit {abs(tick)}", lambda limit: other.set_limit(limit) or 0, abs(tick))],
                    [("undo", lambda _: other.undo() or 0, None)]]):
                try:
                    wanted = f"done {method(argument)}"
                except (NameTaken, UnknownJob, Refused, TooMany, NothingToUndo) as error:
                    with self.assertRaises(type(error)):
                        desk.do(command)
                else:
                    self.same(desk.do(command), wanted)
            self.assertEqual(desk, other)
            wanted = ", ".join(f"{name} {number}" for name, number in other.assignment.items())
            self.same(desk.do("who"), wanted or "nobody")
            self.same(desk.do(f"where {tick}"), " ".join(map(str, other.where(tick))))
            self.same(desk.do(f"free b {tick}"),
                      ", ".join(f"{first} to {last}" for first, last in other.free("b", tick)))
            for name in other.book.names():
                self.same(desk.do(f"may {name}"), " ".join(other.may(name)))

    def test_great_integers(self):
        desk = Desk(Beam(-FAR, FAR, *BEAM.heads))
        self.same(desk.do(f"put x cut -{FAR} -{FAR // 2} {FAR} 1"), "done 0")
        self.assertEqual(desk.book.job("x").line, Line(-FAR, -(FAR // 2), [(FAR, 1)]))
        self.same(desk.do(f"where {FAR}"), f"{1 - FAR} {2 - FAR // 2}")
        self.same(desk.do(f"limit {FAR}"), "done 0")

    def test_what_is_no_command(self):
        desk = Desk(BEAM)
        desk.put(X)
        for command in [
                None, True, 0, b"who", [], ["who"], (), {}, object(), str, ANYTHING, "", " ", "who ", " who", "who who",
                "Who", "WHO", "who\n", "what", "undo 1", "undo ", "und", "put", "put y", "put y cut", "put y cut 0",
                "put y cut 0 9 1", "put y cut 0 9 0 1", "put y cut 0 9 -1 1", "put y cut 0 9 1 1 1 1 1 1 1 1",
                "put y  cut 0 9", "put y cut 00 9", "put y cut -0 9", "put y cut +1 9", "put Y cut 0 9", "put y1 cut 0 9",
                "put abcdefghi cut 0 9", "put y abcdefghi 0 9", "put y cut 0 9 ", "put y cut 0 nine", "put y cut 0 9 1 x",
                "drop", "drop x y", "drop X", "drop abcdefghi", "drop 1", "drop ", "exchange", "exchange a", "exchange a 1 1",
                "exchange a 0 1 1", "exchange a 1 0 1", "exchange a 1 1 -1", "exchange a 1 1 1 5", "exchange a 1 1 1 5 -1",
                "exchange a 1 1 1 5 1 5 2", "exchange a 1 1 1 6 2 5 1", "exchange a 1 1 1 1 2 2 1 3 2 4 1", "exchange A 1 1 1",
                "exchange c 0 1 1", "exchange a cut 1 1 1", "limit", "limit -1", "limit None", "limit 1 1", "limit 01",
                "limit -0", "limit nobody", "where", "where x", "where 0 0", "where 00", "where -", "may", "may x y", "may X",
                "may 1", "free", "free a", "free a x", "free a 0 0", "free 0 a", "free A 0", "free a -0", "log", "trial",
                "done 0", "put y cut 0 9 1 1 1 1 1 1 0 1", "put a\ncut 0 9", "drop x\n"]:
            self.keeps(desk, InvalidCommand(command), desk.do, command)
            self.keeps(desk, InvalidCommand(command), desk.do_all, "drop x", command)
            self.keeps(desk, InvalidCommand(command), desk.try_all, "drop x", command)

    def test_errors_of_the_methods(self):
        desk = Desk(BEAM)
        desk.put(X)
        desk.put(Y)
        for command, error in [
                ("put x cut 0 99", NameTaken("x")), ("drop w", UnknownJob("w")), ("may w", UnknownJob("w")),
                ("exchange c 99 99 1", UnknownHead("c")), ("exchange b 9 11 1", BeamTooShort(2)),
                ("free c 0", UnknownHead("c")), ("free x 0", UnknownHead("x")), ("may a", UnknownJob("a"))]:
            self.keeps(desk, error, desk.do, command)
            self.keeps(desk, error, desk.do_all, "limit 7", "drop y", command)
            self.keeps(desk, error, desk.try_all, "limit 7", "drop y", command)
        self.refuses_deed(desk, desk.book.with_job(Z), desk.do, "put z cut 0 11")
        self.refuses_deed(desk, desk.book.with_job(Z), desk.do_all, "limit 3", "put z cut 0 11", "what")
        desk.do_all("drop y", "put w cut 1 12", "limit 0")
        self.keeps(desk, TooMany("changes", 0), desk.do, "exchange a 1 1 1")
        for _ in range(4):
            desk.undo()
        self.keeps(desk, NothingToUndo(), desk.do, "undo")
        for at, name in enumerate("pqrstuvw"):
            desk.do(f"put {name} cut {100 * at} 9 1 0 1 0 1 0")
        self.keeps(desk, TooMany("jobs", 8), desk.do, "put x cut 0 9")
        self.same(desk.book.job("p").line.legs, ((3, 0),))

    def test_the_kinds_stay(self):
        desk = Desk(BEAM)
        desk.do("exchange b 2 3 4 1 1")
        self.assertEqual(desk.book.beam.heads[1], Head("b", 2, 3, ["cut", "saw"], 4, [(1, 1)]))
        self.same(desk.log(), [("exchange", "b")])

    def test_do_all(self):
        desk = Desk(BEAM)
        self.same([desk.do_all(), desk.log()], [[], []])
        self.same(desk.do_all("put x cut 0 10", "limit 3", "put y saw 3 9", "who", "undo", "who"),
                  ["done 0", "done 0", "done 0", "x 1, y 2", "done 0", "x 1"])
        self.same([desk.log(), desk.limit], [[("put", "x")], 3])
        # What was done before may be taken back, unless an error comes later.
        self.keeps(desk, NothingToUndo(), desk.do_all, "limit 9", "undo", "undo")
        self.same(desk.do_all("undo", "put z cut 0 11"), ["done 0", "done 0"])
        self.same(desk.log(), [("put", "z")])

    def test_try_all(self):
        desk = Desk(BEAM)
        desk.put(X)
        before = state_of(desk)
        self.same(desk.try_all("put y saw 3 9", "limit 0", "who", "drop x", "undo", "who"),
                  ["done 0", "done 0", "x 1, y 2", "done 0", "done 0", "x 1, y 2"])
        self.assertEqual(state_of(desk), before)
        self.same(desk.try_all(), [])
        self.keeps(desk, NothingToUndo(), desk.try_all, "put y saw 3 9", "undo", "undo")
        with desk.trial():
            self.same(desk.try_all("drop x", "who"), ["done 0", "nobody"])
            self.same(desk.do_all("drop x", "who"), ["done 0", "nobody"])
            self.keeps(desk, UnknownJob("x"), desk.do_all, "undo", "drop x", "drop x")
        self.assertEqual(state_of(desk), before)

    def test_drawn_sequences(self):
        for seed in range(25):
            random = Random(950 + seed)
            beam = small_beam(random.randint(1, 3), 10, [(random.randint(0, 3), ()) for _ in range(3)])
            desk, slow = Desk(beam), [SlowDesk(beam)]
            for _ in range(20):
                name = random.choice("pqr")
                line = Line(random.randint(-4, 4), random.randint(-2, 12))
                word = random.choice(["put", "put", "drop", "undo"])
                self.follow(desk, slow, word, Job(name, "cut", line))
                self.assertEqual([desk.book, desk.assignment], [slow[-1].book, slow[-1].numbers])
                self.assertEqual(len(desk.log()), len(slow) - 1)

    def follow(self, desk, slow, word, job):
        """A command for both desks; the slow one keeps a list of what was."""
        now = slow[-1]
        if word == "undo":
            if len(slow) > 1:
                slow.pop()
                self.same(desk.do("undo"), "done 0")
            return
        taken = job.name in now.book
        command = f"put {job.name} cut {job.line.first} {job.line.place}" if word == "put" else f"drop {job.name}"
        if taken == (word == "put"):
            self.keeps(desk, NameTaken(job.name) if taken else UnknownJob(job.name), desk.do, command)
            return
        book = now.book.with_job(job) if word == "put" else now.book.without(job.name)
        if now.best(book) is None:
            self.refuses_deed(desk, book, desk.do, command)
            return
        following = SlowDesk(book.beam)
        following.book, following.numbers = now.book, now.numbers
        self.same(desk.do(command), f"done {following.done(book)}")
        slow.append(following)


if __name__ == "__main__":
    unittest.main()
