"""Courses: how far the heads of a beam can move from tick to tick, each at its speeds."""


def pass_on(row, ticks, speeds):
    """The bounds of neighbouring heads behind so many ticks at these speeds.

    A head is bound by those left of it as well, so that no bound is less than one left of it.
    """
    passed = []
    for bound, speed in zip(row, speeds):
        bound = bound - ticks * speed
        passed.append(passed[-1] if passed and passed[-1] > bound else bound)
    return passed


def pass_turn(row, number, turn):
    """The bounds of the heads from this number on behind a way, told by its bounds from each head to each other."""
    passed = []
    for end in range(len(row)):
        passed.append(max([bound + turn[number - 1 + at][end - at] for at, bound in enumerate(row[:end + 1])]))
    return passed


class Course:
    """The heads of a beam at all ticks, each at the speeds that its changes tell."""

    def __init__(self, beam):
        self._beam = beam
        self._changes = sorted(set([change[0] for head in beam.heads for change in head.changes]))
        later = [[head.speed_at(tick) for head in beam.heads] for tick in self._changes]
        self._speeds = [[head.speed for head in beam.heads], *later]

    @property
    def beam(self):
        return self._beam

    def changing_ticks(self, first, last):
        """The ticks from first to last at which a speed can change, ascending."""
        return [tick for tick in self._changes if first <= tick <= last]

    def _stretches(self, low, high):
        """Tuples (ticks, speeds of the heads), between which speeds change, ascending in time."""
        ticks = [low] + [tick for tick in self._changes if low < tick < high] + [high]
        ahead = len([tick for tick in self._changes if tick <= low])
        speeds = self._speeds[ahead:]
        return [(ticks[at + 1] - ticks[at], speeds[at]) for at in range(len(ticks) - 1)]

    def passed(self, row, number, begin, end):
        """The bounds of the heads from this number on at the tick end, from those at the tick begin."""
        way = 1 if begin <= end else -1
        for ticks, speeds in self._stretches(min(begin, end), max(begin, end))[::way]:
            row = pass_on(row, ticks, speeds[number - 1:])
        return row


class TurnCourse(Course):
    """The heads of a beam at all ticks, with the speeds of the first turn in each turn."""

    def __init__(self, beam, period):
        super().__init__(beam)
        self._period = period
        self._turns = {True: [self._one_turn(0, period)], False: [self._one_turn(period, 0)]}

    def _one_turn(self, begin, end):
        """The bounds from each head to each one from it on, from one end of the first turn to the other one."""
        many = len(self.beam)
        return [self._in_turn([0] * (many + 1 - number), number, begin, end) for number in range(1, many + 1)]

    def changing_ticks(self, first, last):
        ticks = []
        for change in sorted(set([0, *self._changes])):
            tick = first + (change - first) % self._period
            while tick <= last:
                ticks.append(tick)
                tick = tick + self._period
        return sorted(ticks)

    def _in_turn(self, row, number, begin, end):
        """The same as passed, for two ticks that no multiple of the period lies between."""
        start = min(begin, end) // self._period * self._period
        return super().passed(row, number, begin - start, end - start)

    def _in_turns(self, row, number, many, forward):
        """The bounds behind so many whole turns, in steps of 1, 2, 4, .. turns."""
        turns = self._turns[forward]
        at = 0
        while many > 0:
            if at == len(turns):
                turns.append([pass_turn(turns[-1][k], k + 1, turns[-1]) for k in range(len(self.beam))])
            if many & 1:
                row = pass_turn(row, number, turns[at])
            many = many // 2
            at = at + 1
        return row

    def passed(self, row, number, begin, end):
        first = -(-min(begin, end) // self._period)
        last = max(begin, end) // self._period
        if first > last:
            return self._in_turn(row, number, begin, end)
        forward = begin <= end
        if not forward:
            first, last = last, first
        row = self._in_turn(row, number, begin, first * self._period)
        row = self._in_turns(row, number, abs(last - first), forward)
        return self._in_turn(row, number, last * self._period, end)
