"""Cuts: the most that can flow from one node to another one, and what stays apart from the other one."""


def shortest_way(left, start, goal):
    """For each node that can be reached, the node ahead of it; all of them, unless the goal is among them."""
    ahead = {start: None}
    waiting = [start]
    while waiting and goal not in ahead:
        node = waiting.pop(0)
        for other in left[node]:
            if other not in ahead and left[node][other] > 0:
                ahead[other] = node
                waiting.append(other)
    return ahead


def pairs_to(ahead, goal):
    """The pairs of neighbouring nodes on the way to the goal."""
    pairs = []
    while ahead[goal] is not None:
        pairs.append((ahead[goal], goal))
        goal = ahead[goal]
    return pairs


class Network:
    """Nodes, and how much can flow from node to node; then it is filled from the start to the goal.

    The caller sees to it that the ways from the start to the goal have bounds.
    """

    def __init__(self, most, start, goal):
        """Most is a dict from pairs of nodes to what can flow between them at the most."""
        self._most = {pair: most[pair] for pair in most}
        self._start = start
        self._left = {start: {}, goal: {}}
        for node, other in most:
            self._left.setdefault(node, {})
            self._left.setdefault(other, {}).setdefault(node, 0)
            self._left[node][other] = most[node, other]
        self._ahead = shortest_way(self._left, start, goal)
        while goal in self._ahead:
            self._fill(pairs_to(self._ahead, goal))
            self._ahead = shortest_way(self._left, start, goal)

    def _fill(self, pairs):
        many = min([self._left[node][other] for node, other in pairs])
        for node, other in pairs:
            self._left[node][other] -= many
            self._left[other][node] += many

    def flow(self, node, other):
        """How much more flows from the one node to the other one than back."""
        return max(0, self._most[node, other] - self._left[node][other])

    def stays(self, node):
        """Whether the node is in the least part with the start that is cut off from the goal."""
        return node in self._ahead
