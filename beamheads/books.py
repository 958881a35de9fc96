"""Books: a beam, and jobs that are to be done on it."""

from beamheads.beams import Beam
from beamheads.courses import Course
from beamheads.errors import InvalidBeam, InvalidJob, InvalidJobs, NameTaken, TooMany, UnknownJob
from beamheads.jobs import Job
from beamheads.lines import shared_ticks
from beamheads.tables import Table


def check_beam(beam):
    if not isinstance(beam, Beam):
        raise InvalidBeam(beam)


def check_jobs(jobs, most):
    names = []
    for position, job in enumerate(jobs):
        if not isinstance(job, Job) or job.name in names:
            raise InvalidJobs(position)
        names.append(job.name)
    if len(jobs) > most:
        raise TooMany("jobs", most)


def check_new_job(plan, job):
    if not isinstance(job, Job):
        raise InvalidJob(job)
    if job.name in plan:
        raise NameTaken(job.name)


def sorted_jobs(jobs):
    return tuple(sorted(jobs, key=lambda job: job.name))


class Plan:
    """What all books have: a beam, and jobs sorted by their names, which the classes below set."""

    @property
    def beam(self):
        return self._beam

    @property
    def jobs(self):
        return self._jobs

    @property
    def course(self):
        return self._course

    @property
    def table(self):
        """What the heads can do in this book: as the book does not change, it is found just once."""
        return self._table

    def __len__(self):
        return len(self._jobs)

    def __contains__(self, name):
        return isinstance(name, str) and name in [job.name for job in self._jobs]

    def names(self):
        return [job.name for job in self._jobs]

    def job(self, name):
        if name not in self:
            raise UnknownJob(name)
        return self._jobs[self.names().index(name)]

    def summary(self):
        return {"heads": len(self._beam), "jobs": len(self._jobs)}


class Book(Plan):
    """A beam and up to eight jobs."""

    MOST_JOBS = 8

    def __init__(self, beam, *jobs):
        check_beam(beam)
        check_jobs(jobs, Book.MOST_JOBS)
        self._beam = beam
        self._jobs = sorted_jobs(jobs)
        self._course = Course(beam)
        self._table = Table(self._course, self._jobs)

    def __eq__(self, other):
        return isinstance(other, Book) and self._beam == other._beam and self._jobs == other._jobs

    def __repr__(self):
        parts = [repr(part) for part in [self._beam, *self._jobs]]
        return f"Book({', '.join(parts)})"

    def summary(self):
        counts = super().summary()
        first = min([job.line.first for job in self._jobs], default=None)
        last = max([job.line.last for job in self._jobs], default=None)
        return {"first": first, "heads": counts["heads"], "jobs": counts["jobs"], "last": last}

    def shared(self, one, other):
        return shared_ticks(self.job(one).line, self.job(other).line)

    def with_job(self, job):
        check_new_job(self, job)
        return Book(self._beam, *self._jobs, job)

    def without(self, name):
        dropped = self.job(name)
        jobs = [job for job in self._jobs if job.name != dropped.name]
        return Book(self._beam, *jobs)

    def with_beam(self, beam):
        return Book(beam, *self._jobs)

    def mirrored(self):
        jobs = [job.mirrored() for job in self._jobs]
        return Book(self._beam.mirrored(), *jobs)

    def backward(self):
        jobs = [job.backward() for job in self._jobs]
        return Book(self._beam.backward(), *jobs)

    def later(self, ticks):
        jobs = [job.later(ticks) for job in self._jobs]
        return Book(self._beam.later(ticks), *jobs)

    def moved(self, places):
        jobs = [job.moved(places) for job in self._jobs]
        return Book(self._beam.moved(places), *jobs)

    def wider(self, more):
        return Book(self._beam.wider(more), *self._jobs)

    def scaled(self, *, parts=1, speed=1):
        jobs = [job.scaled(parts=parts) for job in self._jobs]
        return Book(self._beam.scaled(parts=parts, speed=speed), *jobs)
