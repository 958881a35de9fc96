"""Tables: what the heads can do in one book, job by job and pair by pair."""

from beamheads.bounds import excesses
from beamheads.lines import shared_ticks


class Table:
    """The excesses, misfits and pushes of a book; each part is computed once, when it is needed first.

    In a turn book the first job of a pair is always its copy 0, and turn tells the copy of the other one;
    a plain book has no other copies.
    """

    def __init__(self, course, jobs, period=0):
        self._course = course
        self._jobs = {job.name: job for job in jobs}
        self._period = period
        self._excesses = {}
        self._misfits = {}
        self._pushes = {}

    def names(self):
        return list(self._jobs)

    def head_numbers(self):
        """The numbers of the heads, ascending."""
        return list(range(1, self.outside()))

    def outside(self):
        """The number that is one more than there are heads."""
        return len(self._course.beam) + 1

    def line_of(self, name, turn=0):
        line = self._jobs[name].line
        return line.later(turn * self._period) if turn else line

    def excess(self, one, i, other, j, turn=0):
        key = (one, i, other, turn)
        if key not in self._excesses:
            self._excesses[key] = excesses(self._course, i, self.line_of(one), self.line_of(other, turn))
        return self._excesses[key][j - i]

    def misfit(self, name, number):
        if (name, number) not in self._misfits:
            self._misfits[name, number] = self._find_misfit(name, number)
        return self._misfits[name, number]

    def _find_misfit(self, name, number):
        line = self.line_of(name)
        beam = self._course.beam
        if not beam.head(number).does(self._jobs[name].kind):
            return "kind"
        least, greatest = beam.range_of(number)
        if line.lowest < least or line.highest > greatest:
            return "range"
        return "speed" if self.excess(name, number, name, number) > 0 else None

    def fits(self, name, number):
        return self.misfit(name, number) is None

    def are_compatible(self, one, i, other, j, turn=0):
        if i > j:
            return self.are_compatible(other, j, one, i, -turn)
        if self.excess(one, i, other, j, turn) > 0:
            return False
        if i < j:
            return True
        shared = shared_ticks(self.line_of(one), self.line_of(other, turn))
        return self.excess(other, j, one, i, -turn) <= 0 and (shared is None or shared[0] == shared[1])

    def pushed_to(self, one, i, other, turn=0):
        key = (one, i, other, turn)
        if key not in self._pushes:
            self._pushes[key] = self._find_push(one, i, other, turn)
        return self._pushes[key]

    def _find_push(self, one, least, other, turn):
        """The least number that the other job can have when the one job has this number or a greater one."""
        # Small numbers of both are often compatible, and then no other ones need be looked at.
        for j in self.head_numbers():
            for i in range(least, self.outside()):
                if self.are_compatible(one, i, other, j, turn):
                    return j
        return self.outside()

    def forced(self, name, number):
        """The furthest nodes to which skips and pushes lead from this node."""
        if number == self.outside():
            return []
        nodes = [(other, self.pushed_to(name, number, other)) for other in self._jobs if other != name]
        return nodes if self.fits(name, number) else [(name, number + 1)] + nodes
