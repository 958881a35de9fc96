"""Words: integers, heads and jobs as texts and commands write them."""

from beamheads.errors import BeamError
from beamheads.heads import Head
from beamheads.jobs import Job
from beamheads.lines import Line


def is_integer_word(word):
    """Whether the word is an integer without unnecessary zeros or signs."""
    digits = word[1:] if word.startswith("-") else word
    if digits == "" or not all(["0" <= digit <= "9" for digit in digits]):
        return False
    return word == "0" or not digits.startswith("0")


def integers_of(words):
    """The integers that the words are, or None if one of them is none."""
    if not all([is_integer_word(word) for word in words]):
        return None
    return [int(word) for word in words]


def pairs_of(numbers):
    """Each two of the numbers that follow one another as a tuple, or None if one is left over."""
    if len(numbers) % 2 == 1:
        return None
    return [(numbers[at], numbers[at + 1]) for at in range(0, len(numbers), 2)]


def numbers_and_pairs(words, many):
    """So many integers and then pairs of them, as a list with the list of the pairs last; None if these are none."""
    numbers = integers_of(words)
    if numbers is None or len(numbers) < many:
        return None
    pairs = pairs_of(numbers[many:])
    return None if pairs is None else [*numbers[:many], pairs]


def head_of(words, kinds):
    """The head of a name, two reaches, a speed and changes, with these kinds; None if there is none."""
    numbers = numbers_and_pairs(words[1:], 3)
    if numbers is None:
        return None
    left, right, speed, changes = numbers
    try:
        return Head(words[0], left, right, kinds, speed, changes)
    except BeamError:
        return None


def job_of(words):
    """The job of a name, a kind, a tick, a place and legs; None if there is none."""
    numbers = numbers_and_pairs(words[2:], 2)
    if numbers is None:
        return None
    tick, place, legs = numbers
    try:
        return Job(words[0], words[1], Line(tick, place, legs))
    except BeamError:
        return None
