"""Tables: what the heads can do in one book, job by job and pair by pair."""

from beamheads.bounds import bounds_from, useful_ticks
from beamheads.losses import running_least


def points_on(line, ticks):
    """Tuples (tick, place) of those of the ticks that the line has."""
    return [(tick, line.at(tick)) for tick in ticks if tick in line]


class Table:
    """The excesses, misfits and links of a book; each part is computed once, when it is needed first."""

    def __init__(self, book):
        self._book = book
        self._ticks = useful_ticks(book.beam, [job.line for job in book.jobs])
        self._points = {job.name: points_on(job.line, self._ticks) for job in book.jobs}
        self._bounds = {}
        self._misfits = {}
        self._pushes = {}

    def names(self):
        return self._book.names()

    def outside(self):
        """The number that is one more than there are heads."""
        return len(self._book.beam) + 1

    def excess(self, one, i, other, j):
        if (one, i) not in self._bounds:
            self._bounds[one, i] = bounds_from(self._book.beam, i, self._book.job(one).line, self._ticks)
        bounds = self._bounds[one, i]
        beyond = [bounds[tick][j - i] - place for tick, place in self._points[other]]
        return max(beyond) + self._book.beam.distance(i, j)

    def misfit(self, name, number):
        if (name, number) not in self._misfits:
            self._misfits[name, number] = self._find_misfit(name, number)
        return self._misfits[name, number]

    def _find_misfit(self, name, number):
        job = self._book.job(name)
        if not self._book.beam.head(number).does(job.kind):
            return "kind"
        least, greatest = self._book.beam.range_of(number)
        if job.line.lowest < least or job.line.highest > greatest:
            return "range"
        return "speed" if self.excess(name, number, name, number) > 0 else None

    def fits(self, name, number):
        return self.misfit(name, number) is None

    def are_compatible(self, one, i, other, j):
        if i > j:
            return self.are_compatible(other, j, one, i)
        if self.excess(one, i, other, j) > 0:
            return False
        if i < j:
            return True
        shared = self._book.shared(one, other)
        return self.excess(other, j, one, i) <= 0 and (shared is None or shared[0] == shared[1])

    def pushed_to(self, one, i, other):
        if (one, other) not in self._pushes:
            self._pushes[one, other] = self._find_pushes(one, other)
        return self._pushes[one, other][i - 1]

    def _find_pushes(self, one, other):
        """For each number of the one job, the least number that the other job can have by it or a greater one."""
        least = []
        for i in range(1, self.outside()):
            beside = [j for j in range(1, self.outside()) if self.are_compatible(one, i, other, j)]
            least.append(min(beside, default=self.outside()))
        return running_least(least[::-1])[::-1]

    def forced(self, name, number):
        """The furthest nodes to which skips and pushes lead from this node."""
        if number == self.outside():
            return []
        nodes = [(other, self.pushed_to(name, number, other)) for other in self.names() if other != name]
        return nodes if self.fits(name, number) else [(name, number + 1)] + nodes
