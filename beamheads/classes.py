"""Classes: nodes that hold together in all assignments, and steps from one assignment to another one."""

from beamheads.assignments import can_be_done, check_assignment, greatest_assignment, is_numbering, least_assignment
from beamheads.checks import is_list
from beamheads.closures import Closure
from beamheads.errors import NoAssignment


def undecided_nodes(least, greatest):
    """The nodes that hold in some assignments, but not in all of them, sorted."""
    return [(name, number) for name in sorted(least) for number in range(least[name] + 1, greatest[name] + 1)]


def nodes_from(table, node, nodes):
    """Those of the undecided nodes to which a chain leads from this one."""
    # What the closure takes from the nodes with the number 1 is not undecided.
    closure = Closure(table, {node[0]: node[1]})
    return [other for other in nodes if closure.number(other[0]) >= other[1]]


def find_classes(book):
    """The same as classes, for a book that has an assignment."""
    table = book.table
    nodes = undecided_nodes(least_assignment(book), greatest_assignment(book))
    reached = {node: nodes_from(table, node, nodes) for node in nodes}
    found = []
    for node in nodes:
        members = [other for other in reached[node] if node in reached[other]]
        if members[0] == node:
            found.append(members)
    return found


def classes(book):
    if least_assignment(book) is None:
        raise NoAssignment()
    return find_classes(book)


def holds(assignment, node):
    return assignment[node[0]] >= node[1]


def differing(found, assignment, other):
    """Those of the found classes in which two assignments differ."""
    # A class holds as a whole or not at all, so that its first node tells of all of them.
    return [nodes for nodes in found if holds(assignment, nodes[0]) != holds(other, nodes[0])]


def differing_classes(book, assignment, other):
    check_assignment(book, assignment)
    check_assignment(book, other)
    return differing(find_classes(book), assignment, other)


def with_class(assignment, nodes, change):
    """The numbers, by so much greater for each of these nodes; change is 1 or -1."""
    names = [node[0] for node in nodes]
    return {name: assignment[name] + change * names.count(name) for name in sorted(assignment)}


def step_towards(table, found, assignment, other):
    """The assignment behind a step by one of the classes in which two assignments differ."""
    for nodes in differing(found, assignment, other):
        following = with_class(assignment, nodes, 1 if holds(other, nodes[0]) else -1)
        if can_be_done(table, following) and differing(found, assignment, following) == [nodes]:
            return following
    return None


def steps_between(book, assignment, other):
    check_assignment(book, assignment)
    check_assignment(book, other)
    table = book.table
    found = find_classes(book)
    row = [{name: assignment[name] for name in sorted(assignment)}]
    # Some step always leads nearer, so that as many steps are enough as there are classes that differ.
    while row[-1] != other:
        row.append(step_towards(table, found, row[-1], other))
    return row


def are_steps(book, value):
    table = book.table
    if not is_list(value) or len(value) == 0:
        return False
    if not all([is_numbering(book, assignment) and can_be_done(table, assignment) for assignment in value]):
        return False
    found = find_classes(book)
    return all([len(differing(found, before, after)) == 1 for before, after in zip(value, value[1:])])
