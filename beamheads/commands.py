"""Commands: the words that tell a desk what to do."""

from beamheads.checks import is_name
from beamheads.words import head_of, integers_of, job_of


def put_parts(words):
    """The job to be put."""
    job = job_of(words)
    return None if job is None else [job]


def name_parts(words):
    """A name alone."""
    return list(words) if len(words) == 1 and is_name(words[0]) else None


def exchange_parts(words):
    """The head as it is to be, but for its kinds, which the command does not tell."""
    head = head_of(words, ["a"])
    return None if head is None else [head]


def no_parts(words):
    """Nothing."""
    return [] if len(words) == 0 else None


def limit_parts(words):
    """A count, or None."""
    if words == ["none"]:
        return [None]
    numbers = integers_of(words)
    return numbers if numbers is not None and len(numbers) == 1 and numbers[0] >= 0 else None


def tick_parts(words):
    """A tick alone."""
    return integers_of(words) if len(words) == 1 else None


def name_and_tick_parts(words):
    """A name and a tick."""
    if len(words) != 2 or name_parts(words[:1]) is None:
        return None
    ticks = integers_of(words[1:])
    return None if ticks is None else [words[0], *ticks]


PARTS = {
    "put": put_parts,
    "drop": name_parts,
    "exchange": exchange_parts,
    "undo": no_parts,
    "limit": limit_parts,
    "who": no_parts,
    "where": tick_parts,
    "may": name_parts,
    "free": name_and_tick_parts,
}


def command_parts(command):
    """The list of the first word of a command and of what follows from the other words; None if it is no command."""
    if not isinstance(command, str):
        return None
    words = command.split(" ")
    if words[0] not in PARTS:
        return None
    find_parts = PARTS[words[0]]
    parts = find_parts(words[1:])
    return None if parts is None else [words[0], *parts]
