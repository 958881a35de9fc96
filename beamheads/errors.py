"""The errors of the package: one class for each kind of failure."""


class BeamError(ValueError):
    """A value that is not valid."""


class InvalidName(BeamError):
    """A value that is no name (one to eight letters from a to z)."""

    def __init__(self, value):
        self.value = value


class InvalidNumber(BeamError):
    """A value that is no integer, or out of its bounds."""

    def __init__(self, value):
        self.value = value


class InvalidKinds(BeamError):
    """Kinds of work that no head can have."""

    def __init__(self, position):
        self.position = position


class InvalidChanges(BeamError):
    """Changes of speed that no head can have."""

    def __init__(self, position):
        self.position = position


class InvalidHead(BeamError):
    """A value that is no Head."""

    def __init__(self, value):
        self.value = value


class InvalidHeads(BeamError):
    """Heads that cannot hang on one beam."""

    def __init__(self, position):
        self.position = position


class InvalidBeam(BeamError):
    """A value that is no Beam."""

    def __init__(self, value):
        self.value = value


class InvalidPlaces(BeamError):
    """A value that is no right tuple of places."""

    def __init__(self, value):
        self.value = value


class InvalidLegs(BeamError):
    """Legs or corners that no line can have."""

    def __init__(self, position):
        self.position = position


class InvalidLine(BeamError):
    """A value that is no Line, or none that fits."""

    def __init__(self, value):
        self.value = value


class InvalidJob(BeamError):
    """A value that is no Job."""

    def __init__(self, value):
        self.value = value


class InvalidJobs(BeamError):
    """Jobs that cannot stand in one book."""

    def __init__(self, position):
        self.position = position


class InvalidTurn(BeamError):
    """A head or a job that breaks the period of a turn book."""

    def __init__(self, name):
        self.name = name


class InvalidAssignment(BeamError):
    """A value that is no assignment."""

    def __init__(self, value):
        self.value = value


class InvalidLog(BeamError):
    """A value that is no log."""

    def __init__(self, position):
        self.position = position


class InvalidPrices(BeamError):
    """A value that is no prices."""

    def __init__(self, name):
        self.name = name


class InvalidText(BeamError):
    """A value that is no text of the kind that is read."""

    def __init__(self, line):
        self.line = line


class InvalidCommand(BeamError):
    """A value that is no command."""

    def __init__(self, value):
        self.value = value


class MissingError(LookupError):
    """Something that is not there."""


class UnknownHead(MissingError):
    """A name that no head has."""

    def __init__(self, name):
        self.name = name


class UnknownNumber(MissingError):
    """A number that no head has."""

    def __init__(self, value):
        self.value = value


class UnknownJob(MissingError):
    """A name that no job has."""

    def __init__(self, name):
        self.name = name


class NoTick(MissingError):
    """A tick that a line does not have."""

    def __init__(self, tick):
        self.tick = tick


class StateError(RuntimeError):
    """Something that cannot be done as things are."""


class BeamTooShort(StateError):
    """A beam whose heads need more than its length."""

    def __init__(self, missing):
        self.missing = missing


class NameTaken(StateError):
    """A name that another job has."""

    def __init__(self, name):
        self.name = name


class SameJob(StateError):
    """One job where two different ones are needed."""

    def __init__(self, name):
        self.name = name


class UnlikeBooks(StateError):
    """Books that cannot be compared."""


class NoAssignment(StateError):
    """A book that has no assignment."""


class OutOfRange(StateError):
    """A place that the head cannot be at."""

    def __init__(self, place):
        self.place = place


class Refused(StateError):
    """A deed after which there would be no assignment."""

    def __init__(self, chain):
        self.chain = chain


class NothingToUndo(StateError):
    """No deed that can be taken back."""


class LimitError(ArithmeticError):
    """A bound that is passed."""


class TooMany(LimitError):
    """More of a kind than the limit allows."""

    def __init__(self, kind, limit):
        self.kind = kind
        self.limit = limit
