"""Turn books: jobs on a beam that repeat for ever, turn by turn."""

from beamheads.books import Plan, check_beam, check_jobs, check_new_job, sorted_jobs
from beamheads.checks import check_head_number, check_integer, check_positive
from beamheads.courses import TurnCourse
from beamheads.errors import InvalidTurn
from beamheads.losses import check_ends
from beamheads.tables import Table


def check_turns(beam, period, jobs):
    """Raise InvalidTurn for the first head, then the first job, that does not keep within the period."""
    for head in beam.heads:
        if not all([0 <= change[0] < period for change in head.changes]):
            raise InvalidTurn(head.name)
    for job in jobs:
        if not 0 <= job.line.first < period or job.line.last - job.line.first > period:
            raise InvalidTurn(job.name)


class TurnBook(Plan):
    """A beam, a period, and up to five jobs that are to be done in each turn."""

    MOST_JOBS = 5

    def __init__(self, beam, period, *jobs):
        check_beam(beam)
        check_positive(period)
        check_jobs(jobs, TurnBook.MOST_JOBS)
        self._jobs = sorted_jobs(jobs)
        check_turns(beam, period, self._jobs)
        self._beam = beam
        self._period = period
        self._course = TurnCourse(beam, period)
        self._table = Table(self._course, self._jobs, period)

    @property
    def period(self):
        return self._period

    def __eq__(self, other):
        return (isinstance(other, TurnBook) and self._beam == other._beam and self._period == other._period
                and self._jobs == other._jobs)

    def __repr__(self):
        parts = [repr(part) for part in [self._beam, self._period, *self._jobs]]
        return f"TurnBook({', '.join(parts)})"

    def summary(self):
        counts = super().summary()
        return {"heads": counts["heads"], "jobs": counts["jobs"], "period": self._period}

    def speed_at(self, number, step):
        check_head_number(number, len(self._beam))
        check_integer(step)
        return self._beam.speed_at(number, step % self._period)

    def copy_of(self, name, turn):
        line = self.job(name).line
        check_integer(turn)
        return line.later(turn * self._period)

    def with_job(self, job):
        check_new_job(self, job)
        return TurnBook(self._beam, self._period, *self._jobs, job)

    def without(self, name):
        dropped = self.job(name)
        jobs = [job for job in self._jobs if job.name != dropped.name]
        return TurnBook(self._beam, self._period, *jobs)


def turn_loss(book, i, begin, j, end):
    check_ends(book.beam, i, begin, j, end)
    row = [0] * (len(book.beam) + 1 - i)
    return -book.course.passed(row, i, begin, end)[j - i]
