"""Jobs: a line that some head that does a kind of work must be on."""

from beamheads.checks import check_name
from beamheads.errors import InvalidLine
from beamheads.lines import Line


class Job:
    """A job: its name, its kind of work, and its line."""

    def __init__(self, name, kind, line):
        check_name(name)
        check_name(kind)
        if not isinstance(line, Line):
            raise InvalidLine(line)
        self._name = name
        self._kind = kind
        self._line = line

    @property
    def name(self):
        return self._name

    @name.setter
    def name(self, value):
        # Errors have attributes of this name; what is assigned somewhere needs a setter in every class.
        raise AttributeError("a job does not change")

    @property
    def kind(self):
        return self._kind

    @kind.setter
    def kind(self, value):
        raise AttributeError("a job does not change")

    @property
    def line(self):
        return self._line

    @line.setter
    def line(self, value):
        raise AttributeError("a job does not change")

    def __eq__(self, other):
        return (isinstance(other, Job) and self._name == other._name and self._kind == other._kind
                and self._line == other._line)

    def __repr__(self):
        return f"Job({self._name!r}, {self._kind!r}, {self._line!r})"

    def on(self, line):
        return Job(self._name, self._kind, line)

    def later(self, ticks):
        return self.on(self._line.later(ticks))

    def moved(self, places):
        return self.on(self._line.moved(places))

    def mirrored(self):
        return self.on(self._line.mirrored())

    def backward(self):
        return self.on(self._line.backward())

    def scaled(self, *, parts=1):
        return self.on(self._line.scaled(parts=parts))
