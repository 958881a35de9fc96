"""Texts: beams, books, assignments and chains written in lines, and read back."""

from beamheads.beams import Beam
from beamheads.books import Book
from beamheads.checks import is_name
from beamheads.errors import InvalidText
from beamheads.words import head_of, integers_of, job_of


def written(first, pairs):
    """The words of these values, then of the pairs."""
    values = list(first)
    for pair in pairs:
        values.extend(pair)
    return [str(value) for value in values]


def written_head(head):
    return written(["head", head.name, head.left, head.right, head.speed], head.changes)


def written_kinds(head):
    return ["does"] + list(head.kinds)


def written_job(job):
    return written(["job", job.name, job.kind, job.line.first, job.line.place], job.line.legs)


def text_of(rows):
    """The text of these rows of words, line by line."""
    return "".join([" ".join(words) + "\n" for words in rows])


def beam_text(beam):
    rows = [written(["beam", beam.left, beam.right], [])]
    for head in beam.heads:
        rows.extend([written_head(head), written_kinds(head)])
    return text_of(rows)


def book_text(book):
    return beam_text(book.beam) + text_of([written_job(job) for job in book.jobs])


def assignment_text(assignment):
    return text_of([written([name, assignment[name]], []) for name in sorted(assignment)])


def chain_text(chain):
    return text_of([written(node, []) for node in chain])


class BeamReader:
    """Takes the lines of the text of a beam, one after the other."""

    def __init__(self):
        self._ends = None
        self._heads = []
        self._waiting = None

    def takes(self, words):
        """Whether the words are those of a line that can follow; then it is taken."""
        if self._ends is None:
            return self._takes_ends(words)
        if self._waiting is not None:
            return self._takes_kinds(words)
        return self._takes_head(words)

    def _takes_ends(self, words):
        ends = integers_of(words[1:])
        # The least head needs two places.
        if words[0] != "beam" or ends is None or len(ends) != 2 or ends[1] - ends[0] < 2:
            return False
        self._ends = ends
        return True

    def _takes_head(self, words):
        # Its kinds are told by the next line only.
        head = head_of(words[1:], ["a"])
        if head is None or written_head(head) != words:
            return False
        if len(self._heads) == Beam.MOST_HEADS or head.name in [other.name for other in self._heads]:
            return False
        reaches = [other.left + other.right for other in [*self._heads, head]]
        if sum(reaches) > self._ends[1] - self._ends[0]:
            return False
        self._waiting = words[1:]
        return True

    def _takes_kinds(self, words):
        head = head_of(self._waiting, words[1:])
        if head is None or written_kinds(head) != words:
            return False
        self._heads.append(head)
        self._waiting = None
        return True

    def is_complete(self):
        return self._heads != [] and self._waiting is None

    def whole(self):
        return Beam(self._ends[0], self._ends[1], *self._heads)


class BookReader:
    """Takes the lines of the text of a book, one after the other."""

    def __init__(self):
        self._reader = BeamReader()
        self._jobs = []

    def takes(self, words):
        """Whether the words are those of a line that can follow; then it is taken."""
        if words[0] == "job" and self._reader.is_complete():
            return self._takes_job(words)
        return self._jobs == [] and self._reader.takes(words)

    def _takes_job(self, words):
        job = job_of(words[1:])
        if job is None or written_job(job) != words or len(self._jobs) == Book.MOST_JOBS:
            return False
        if self._jobs and job.name <= self._jobs[-1].name:
            return False
        self._jobs.append(job)
        return True

    def is_complete(self):
        return self._reader.is_complete()

    def whole(self):
        return Book(self._reader.whole(), *self._jobs)


class NodeReader:
    """Takes lines of a name and a number each; the names ascend where they are to be sorted."""

    def __init__(self, most, is_sorted):
        self._most = most
        self._is_sorted = is_sorted
        self._nodes = []

    def takes(self, words):
        """Whether the words are those of a line that can follow; then it is taken."""
        numbers = integers_of(words[1:])
        if not is_name(words[0]) or numbers is None or len(numbers) != 1 or not 1 <= numbers[0] <= self._most:
            return False
        if self._is_sorted and self._nodes and words[0] <= self._nodes[-1][0]:
            return False
        self._nodes.append((words[0], numbers[0]))
        return True

    def is_complete(self):
        return self._is_sorted or self._nodes != []

    def whole(self):
        return list(self._nodes)


def read_whole(text, reader):
    """What the reader makes of the whole text."""
    if not isinstance(text, str):
        raise InvalidText(None)
    lines = text.split("\n")
    # Behind the last line feed there must be nothing.
    rest = lines.pop()
    for at, line in enumerate(lines):
        if not reader.takes(line.split(" ")):
            raise InvalidText(at + 1)
    if rest != "" or not reader.is_complete():
        raise InvalidText(len(lines) + 1)
    return reader.whole()


def read_beam(text):
    return read_whole(text, BeamReader())


def read_book(text):
    return read_whole(text, BookReader())


def read_assignment(text):
    nodes = read_whole(text, NodeReader(Beam.MOST_HEADS, True))
    return {name: number for name, number in nodes}


def read_chain(text):
    return read_whole(text, NodeReader(Beam.MOST_HEADS + 1, False))
