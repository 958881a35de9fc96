import itertools
from random import Random
import re
import unittest

from beamheads.assignments import greatest_assignment, least_assignment, refusal
from beamheads.beams import Beam
from beamheads.books import Book
from beamheads.errors import InvalidText
from beamheads.heads import Head
from beamheads.jobs import Job
from beamheads.lines import Line
from beamheads.texts import (assignment_text, beam_text, book_text, chain_text, read_assignment, read_beam, read_book,
                             read_chain)
from tests.helpers import ANYTHING, FAR, NAMES, ErrorCase, some_beam
from tests.slow import some_book, some_done_book

BEAM = Beam(0, 20, Head("a", 1, 1, ["cut"], 2, [(5, 0)]), Head("b", 1, 1, ["saw", "cut"], 1))
BOOK = Book(BEAM, Job("y", "saw", Line(3, 9, [(2, 1)])), Job("x", "cut", Line(0, 10)))
BEAM_TEXT = "beam 0 20\nhead a 1 1 2 5 0\ndoes cut\nhead b 1 1 1\ndoes cut saw\n"
BOOK_TEXT = BEAM_TEXT + "job x cut 0 10\njob y saw 3 9 2 1\n"
READERS = {"beam": read_beam, "book": read_book, "assignment": read_assignment, "chain": read_chain}
NO_STRINGS = [None, True, 0, 1, b"", BEAM_TEXT.encode(), [], [BEAM_TEXT], BEAM_TEXT.split("\n"), (), {}, {BEAM_TEXT: 1},
              BEAM, BOOK, object(), str, ANYTHING]

INTEGER = "(?:0|-?[1-9][0-9]*)"
PAIRS = f"((?: {INTEGER} {INTEGER}){{0,3}})"
ROWS = {"beam": re.compile(f"beam ({INTEGER}) ({INTEGER})"),
        "head": re.compile(f"head ([a-z]{{1,8}}) ({INTEGER}) ({INTEGER}) ({INTEGER}){PAIRS}"),
        "does": re.compile("does ([a-z]{1,8}(?: [a-z]{1,8}){0,3})"),
        "job": re.compile(f"job ([a-z]{{1,8}}) ([a-z]{{1,8}}) ({INTEGER}) ({INTEGER}){PAIRS}"),
        "node": re.compile("([a-z]{1,8}) ([1-6])")}


def pairs_of(text):
    numbers = [int(word) for word in text.split()]
    return list(zip(numbers[::2], numbers[1::2]))


def ascending(values):
    return all(one < other for one, other in zip(values, values[1:]))


class SlowReader:
    """Whether lines are the beginning of a text of a kind, and a whole one: from the words of the document."""

    def __init__(self, kind, lines):
        self.kind, self.lines = kind, lines

    def match(self, at, word):
        return ROWS[word].fullmatch(self.lines[at])

    def is_beginning(self):
        if self.kind in ("assignment", "chain"):
            rows = [self.match(at, "node") for at in range(len(self.lines))]
            if not all(rows):
                return False
            return self.kind == "chain" or (ascending([row[1] for row in rows]) and all(row[2] < "6" for row in rows))
        count = self.beam_lines()
        if not self.are_heads(count):
            return False
        jobs = [self.match(at, "job") for at in range(count, len(self.lines))]
        if not all(jobs) or len(jobs) > (8 if self.kind == "book" else 0) or jobs and count % 2 == 0 or jobs and count < 3:
            return False
        legs = [pairs_of(job[5]) for job in jobs]
        return ascending([job[1] for job in jobs]) and all(
            all(ticks > 0 for ticks, _ in row) and all(one[1] != other[1] for one, other in zip(row, row[1:]))
            for row in legs)

    def beam_lines(self):
        """How many lines are those of the beam."""
        words = [line.split(" ")[0] for line in self.lines]
        return words.index("job") if "job" in words and self.kind == "book" else len(words)

    def are_heads(self, count):
        expected = ["beam"] + ["head", "does"] * 5
        if count > len(expected):
            return False
        rows = [self.match(at, word) for at, word in zip(range(count), expected)]
        if not all(rows):
            return False
        ends = [int(rows[0][1]), int(rows[0][2])] if rows else [0, 2]
        left, names = ends[1] - ends[0], []
        if left < 2:
            return False
        for row in rows[1::2]:
            reaches = [int(row[2]), int(row[3])]
            left -= sum(reaches)
            speeds = [(None, int(row[4])), *pairs_of(row[5])]
            if (min(reaches) < 1 or left < 0 or row[1] in names or min(speed for _, speed in speeds) < 0
                    or any(one[1] == other[1] for one, other in zip(speeds, speeds[1:]))
                    or not ascending([tick for tick, _ in speeds[1:]])):
                return False
            names.append(row[1])
        return all(ascending(row[1].split(" ")) for row in rows[2::2])

    def is_whole(self):
        if self.kind == "assignment":
            return True
        if self.kind == "chain":
            return self.lines != []
        count = self.beam_lines()
        return count >= 3 and count % 2 == 1


def wrong_line(kind, text):
    """The number of the wrong line, or None for a text that can be read."""
    lines = text.split("\n")
    rest = lines.pop()
    for at in range(len(lines)):
        if not SlowReader(kind, lines[:at + 1]).is_beginning():
            return at + 1
    return None if rest == "" and SlowReader(kind, lines).is_whole() else len(lines) + 1


def changed_texts(text):
    """Texts with a letter, word, line, space or line feed left out, put in, doubled or exchanged."""
    for at in range(len(text) + 1):
        yield text[:at] + text[at + 1:]
        yield text[:at]
        yield text[at:]
        for more in " \n-0a":
            yield text[:at] + more + text[at:]
            yield text[:at] + more + text[at + 1:]
    lines = text.split("\n")[:-1]
    for at, line in enumerate(lines):
        words = line.split(" ")
        rows = [words[:k] + words[k + 1:] for k in range(len(words))]
        rows += [words[:k] + [words[k]] + words[k:] for k in range(len(words))]
        rows += [words[:k] + [words[k + 1], words[k]] + words[k + 2:] for k in range(len(words) - 1)]
        for more in ("0", "1", "-1", "7", "-0", "01", "+1", "x", "abcdefghi", "A", "", str(FAR), "1.0", "head", "job"):
            rows += [words[:k] + [more] + words[k + 1:] for k in range(len(words))]
            rows += [words[:k] + [more] + words[k:] for k in range(len(words) + 1)]
        for row in rows:
            yield "\n".join(lines[:at] + [" ".join(row)] + lines[at + 1:]) + "\n"
    for at, other in itertools.product(range(len(lines) + 1), range(len(lines))):
        yield "\n".join(lines[:at] + [lines[other]] + lines[at:]) + "\n"
        if at < len(lines):
            exchanged = list(lines)
            exchanged[at], exchanged[other] = lines[other], lines[at]
            yield "\n".join(exchanged) + "\n"
            yield "\n".join(lines[:at] + lines[at + 1:]) + "\n"


class TextCase(ErrorCase):

    def reads(self, kind, text, told=None):
        """The text is read, or its wrong line told, as the slow reader does it; what is read is written the same."""
        wrong = wrong_line(kind, text)
        if wrong is not None:
            self.fails(InvalidText(wrong), READERS[kind], text)
        else:
            write = {"beam": beam_text, "book": book_text, "assignment": assignment_text, "chain": chain_text}[kind]
            self.assertEqual(write(READERS[kind](text)), text)
        if told is not None:
            told.append(wrong)


class TestWritten(TextCase):

    def test_in_numbers(self):
        self.same([beam_text(BEAM), book_text(BOOK)], [BEAM_TEXT, BOOK_TEXT])
        self.same(beam_text(beam=Beam(-FAR, FAR, Head("a", FAR, 1, ["z", "cut", "b", "a"], 0))),
                  f"beam -{FAR} {FAR}\nhead a {FAR} 1 0\ndoes a b cut z\n")
        self.same(book_text(book=Book(BEAM)), BEAM_TEXT)
        self.same(assignment_text({"y": 2, "x": 1, "ab": 5}), "ab 5\nx 1\ny 2\n")
        self.same([assignment_text({}), assignment_text(assignment={"z": 3})], ["", "z 3\n"])
        self.same(chain_text([("y", 2), ("x", 6), ("x", 6)]), "y 2\nx 6\nx 6\n")
        self.same(chain_text(chain=(("y", 1),)), "y 1\n")

    def test_changes_and_legs_that_are_left(self):
        head = Head("a", 1, 1, ["cut"], 3, [(-5, 3), (7, 0), (9, 0)])
        line = Line(-3, -10, [(2, -5), (1, -5), (4, 0)])
        self.same(book_text(Book(Beam(-2, 9, head), Job("x", "cut", line))),
                  "beam -2 9\nhead a 1 1 3 7 0\ndoes cut\njob x cut -3 -10 3 -5 4 0\n")

    def test_read_back_and_written_again(self):
        random = Random(911)
        for at in range(150):
            book = (some_book, some_done_book)[at % 2](random, kinds=("cut", "saw", "a", "zz"))
            self.assertEqual(read_book(book_text(book)), book)
            self.assertEqual(repr(read_book(book_text(book))), repr(book))
            self.assertEqual(read_beam(beam_text(book.beam)), book.beam)
            self.same(book_text(read_book(book_text(book))), book_text(book))
            for numbers in (least_assignment(book), greatest_assignment(book)):
                if numbers is not None:
                    self.same(read_assignment(assignment_text(numbers)), numbers)
            chain = refusal(book)
            if chain is not None:
                self.same(read_chain(chain_text(chain)), chain)
        for _ in range(60):
            beam = some_beam(random)
            self.assertEqual(read_beam(text=beam_text(beam)), beam)
            far = beam.later(-FAR).moved(-FAR).scaled(parts=7, speed=10 ** 30)
            self.assertEqual(repr(read_beam(beam_text(far))), repr(far))

    def test_great_books(self):
        heads = [Head(name, 1, 2, ["d", "c", "b", "a"], k, [(-9, k + 1), (0, k), (FAR, k + 5)])
                 for k, name in enumerate(NAMES)]
        jobs = [Job(name, "none", Line(-k, FAR, [(1, 1), (FAR, -FAR), (2, 0)])) for k, name in enumerate("hgfedcba")]
        book = Book(Beam(-FAR, FAR, *heads), *jobs)
        self.assertEqual(repr(read_book(book_text(book))), repr(book))
        self.assertEqual(len(book_text(book).split("\n")), 1 + 10 + 8 + 1)

    def test_chains_of_400_nodes(self):
        chain = [("a", 1), ("b", 6), ("b", 6), ("zzzzzzzz", 3)] * 100
        self.same(read_chain(chain_text(chain)), chain)
        self.same(read_chain(text="y 1\ny 1\n"), [("y", 1), ("y", 1)])

    def test_new_values(self):
        text = "x 1\ny 2\n"
        read_assignment(text).clear()
        self.same(read_assignment(text=text), {"x": 1, "y": 2})
        self.assertEqual(list(read_assignment(text)), ["x", "y"])
        read_chain(text).clear()
        self.same(read_chain(text), [("x", 1), ("y", 2)])


class TestWrongLines(TextCase):

    def test_each_change_of_a_beam(self):
        told = []
        for text in changed_texts(BEAM_TEXT):
            self.reads("beam", text, told)
            self.reads("book", text, told)
        self.assertEqual({None, 1, 2, 3, 4, 5, 6} - set(told), set())

    def test_each_change_of_a_book(self):
        told = []
        for text in changed_texts(BOOK_TEXT):
            self.reads("book", text, told)
            self.reads("beam", text)
        self.assertEqual({None, 1, 2, 3, 4, 5, 6, 7, 8} - set(told), set())

    def test_each_change_of_other_books(self):
        random = Random(921)
        for _ in range(12):
            book = some_book(random, jobs=2, kinds=("cut", "saw"))
            for text in random.sample(list(changed_texts(book_text(book))), 300):
                self.reads("book", text)

    def test_each_change_of_assignments_and_chains(self):
        for text in ("", "x 1\n", "x 1\ny 2\n", "ab 5\nb 5\nzzzzzzzz 1\n", "x 6\nx 6\na 1\n", "y 2\nx 1\n"):
            for changed in itertools.chain([text], changed_texts(text)):
                self.reads("assignment", changed)
                self.reads("chain", changed)

    def test_in_numbers(self):
        wrong = {
            "": 1, "\n": 1, " ": 1, "beam 0 20": 1, "beam 0 20\n": 2, "beam 0 1\n": 1, "beam 0 2\n": 2, "beam 2 0\n": 1,
            "beam 5 7\nhead a 1 1 0\n": 3, "beam 5 7\nhead a 1 2 0\n": 2, "beam 5 7\nhead a 1 1 0\ndoes a\nhead b 1 1 0\n": 4,
            "beam 0 9\nhead a 1 1 0 4 0\n": 2, "beam 0 9\nhead a 1 1 0 4 1 4 2\n": 2, "beam 0 9\nhead a 1 1 0 4 1 3 2\n": 2,
            "beam 0 9\nhead a 1 1 0 4 1 5 1\n": 2, "beam 0 9\nhead a 1 1 0 1 1 2 2 3 3 4 4\n": 2, "beam 0 9\nhead a 1 1\n": 2,
            "beam 0 9\nhead a 0 1 0\n": 2, "beam 0 9\nhead a 1 1 -1\n": 2, "beam 0 9\nhead a 1 1 0 5\n": 2,
            "beam 0 9\nhead a 1 1 0\ndoes b a\n": 3, "beam 0 9\nhead a 1 1 0\ndoes a a\n": 3,
            "beam 0 9\nhead a 1 1 0\ndoes\n": 3, "beam 0 9\nhead a 1 1 0\ndoes a b c d e\n": 3,
            "beam 0 9\nhead a 1 1 0\ndoes a\nhead a 1 1 0\n": 4, "beam 0 9\nhead a 1 1 0\nhead b 1 1 0\n": 3,
            "beam 0 9\nhead a 1 1 0\ndoes a\nhead b 1 1 0\n": 5, "beam 0 9\nhead a 1 1 0\ndoes a\nbeam 0 9\n": 4,
            "beam 0 9\nhead a 1 1 0\ndoes a\n\n": 4, "beam 0 9\nhead a 1 1 0\ndoes a\n ": 4, "beam 0 9\ndoes a\n": 2,
            "beam 0 9 \nhead a 1 1 0\ndoes a\n": 1, " beam 0 9\nhead a 1 1 0\ndoes a\n": 1, "beam  0 9\n": 1,
            "beam 00 9\n": 1, "beam -0 9\n": 1, "beam +0 9\n": 1, "beam 0 09\n": 1, "beam - 9\n": 1, "beam 0 9 9\n": 1,
        }
        for text, line in wrong.items():
            self.assertEqual(wrong_line("beam", text), line)
            self.fails(InvalidText(line), read_beam, text)
            self.fails(InvalidText(line), read_book, text)
        wrong = {"job x cut 0": 1, "job x cut 0 9": 1, "job x cut 0\n": 1, "job x cut 0 9 1\n": 1, "job x cut 0 9 0 1\n": 1,
                 "job x cut 0 9 -1 1\n": 1, "job x cut 0 9 1 1 1 1\n": 1, "job x cut 0 9 1 1 1 2 1 3 1 4\n": 1,
                 "job x cut 0 9\njob x cut 1 9\n": 2, "job x cut 0 9\njob w cut 1 9\n": 2, "job x\n": 1, "job\n": 1,
                 "job x cut 0 9\nhead c 1 1 1\n": 2, "job x cut 0 9\ndoes cut\n": 2, "job X cut 0 9\n": 1,
                 "job x cut 0 9\n\n": 2, "job x cut 0 9\njob y cut 0 9": 2, "job x 0 9\n": 1,
                 "".join(f"job {name} cut 0 9\n" for name in "abcdefghi"): 9}
        for text, line in wrong.items():
            self.fails(InvalidText(5 + line), read_book, BEAM_TEXT + text)
            self.fails(InvalidText(6), read_beam, BEAM_TEXT + text)
        self.fails(InvalidText(6), read_beam, BOOK_TEXT)
        six = "beam 0 99\n" + "".join(f"head {name} 1 1 0\ndoes a\n" for name in "abcdef")
        self.fails(InvalidText(12), read_beam, six)
        self.assertEqual(len(read_beam(six[:-len("head f 1 1 0\ndoes a\n")])), 5)

    def test_great_and_small_integers(self):
        for word in (str(FAR), str(-FAR), "9" * 40, "-" + "9" * 40, "0", "-1", "10"):
            text = BEAM_TEXT + f"job x cut {word} {word} 1 {word}\n"
            self.same(book_text(read_book(text)), text)
        for word in ("0" * 40, "-0", "00", "-", "", "+1", "1-", "--1", "1_0", "1.0", "1e9", "0x1", "a", "-01", "01"):
            self.fails(InvalidText(6), read_book, BEAM_TEXT + f"job x cut {word} 9\n")
            self.fails(InvalidText(6), read_book, BEAM_TEXT + f"job x cut 0 {word}\n")
            self.fails(InvalidText(6), read_book, BEAM_TEXT + f"job x cut 0 9 1 {word}\n")

    def test_numbers_of_nodes(self):
        for number in range(-1, 9):
            self.reads("assignment", f"x {number}\n")
            self.reads("chain", f"x {number}\n")
        self.same([read_assignment("x 5\n"), read_chain("x 6\n")], [{"x": 5}, [("x", 6)]])
        self.fails(InvalidText(1), read_assignment, "x 6\n")
        self.fails(InvalidText(1), read_chain, "x 7\n")
        self.fails(InvalidText(1), read_chain, "")
        self.same(read_assignment(""), {})
        self.fails(InvalidText(2), read_assignment, "x 1\nx 1\n")
        self.fails(InvalidText(2), read_assignment, "x 1\nw 1\n")
        self.fails(InvalidText(2), read_assignment, "x 1\ny 2")
        self.fails(InvalidText(2), read_chain, "x 1\ny 2")
        self.fails(InvalidText(1), read_assignment, "x")

    def test_values_that_are_no_strings(self):
        for read, value in itertools.product(READERS.values(), NO_STRINGS):
            self.fails(InvalidText(None), read, value)


if __name__ == "__main__":
    unittest.main()
