"""Closures: what follows from some nodes by links."""


class Closure:
    """The nodes to which chains lead from some nodes and from all nodes with the number 1."""

    def __init__(self, table, starts):
        self._beyond = table.outside()
        self._numbers = {name: starts.get(name, 1) for name in table.names()}
        self._ahead = {}
        waiting = table.names()
        while waiting:
            name = waiting.pop(0)
            node = (name, self._numbers[name])
            for other, number in table.forced(name, node[1]):
                if number > self._numbers[other]:
                    self._reach(other, number, node)
                    waiting.append(other)

    def _reach(self, name, number, node):
        # A push leads to all lesser numbers as well, and a skip just to the next one.
        for lesser in range(self._numbers[name] + 1, number + 1):
            self._ahead[name, lesser] = node
        self._numbers[name] = number

    def number(self, name):
        """The greatest number of the job to which a chain leads."""
        return self._numbers[name]

    def least(self):
        """The least assignment in which all these nodes hold, or None."""
        if self.stuck_node():
            return None
        return {name: self._numbers[name] for name in self._numbers}

    def stuck_node(self):
        """A node beyond all heads to which a chain leads, or None."""
        stuck = [name for name in self._numbers if self._numbers[name] == self._beyond]
        return (stuck[0], self._beyond) if stuck else None

    def stuck_chain(self):
        """A chain beyond all heads, or None."""
        stuck = self.stuck_node()
        return self.chain_to(stuck) if stuck else None

    def chain_to(self, node):
        chain = [node]
        while chain[-1] in self._ahead:
            chain.append(self._ahead[chain[-1]])
        return chain[::-1]


def greatest_number(table, name):
    """The greatest number that the job has in any assignment, of which there is one."""
    number = table.outside() - 1
    while Closure(table, {name: number}).stuck_node():
        number = number - 1
    return number


def greatest_numbers(table):
    """The greatest assignment, or None."""
    if Closure(table, {}).stuck_node():
        return None
    return {name: greatest_number(table, name) for name in table.names()}
