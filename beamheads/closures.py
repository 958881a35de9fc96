"""Closures: what follows from some nodes by links."""


class Closure:
    """The nodes to which chains lead from some nodes and from all nodes with the number 1."""

    def __init__(self, table, starts):
        self._outside = table.outside()
        self._numbers = {name: starts.get(name, 1) for name in table.names()}
        self._ahead = {}
        waiting = table.names()
        while waiting:
            name = waiting.pop(0)
            node = (name, self._numbers[name])
            for other, number in table.forced(name, node[1]):
                if number > self._numbers[other]:
                    self._reach(other, number, node)
                    waiting.append(other)

    def _reach(self, name, number, node):
        # A push leads to all lesser numbers as well, and a skip just to the next one.
        for lesser in range(self._numbers[name] + 1, number + 1):
            self._ahead[name, lesser] = node
        self._numbers[name] = number

    def number(self, name):
        """The greatest number of the job to which a chain leads."""
        return self._numbers[name]

    def least(self):
        """The least assignment in which all these nodes hold, or None."""
        return None if self.stuck_node() else dict(self._numbers)

    def stuck_node(self):
        """A node beyond all heads to which a chain leads, or None."""
        stuck = [name for name in self._numbers if self._numbers[name] == self._outside]
        return (stuck[0], self._outside) if stuck else None

    def chain_to(self, node):
        chain = [node]
        while chain[-1] in self._ahead:
            chain.append(self._ahead[chain[-1]])
        return chain[::-1]
