"""Prices: the cheapest assignment, and amounts on links that show that no other one is cheaper."""

from beamheads.assignments import check_assignment, is_part_numbering, least_assignment
from beamheads.checks import is_integer, is_list, is_positive
from beamheads.cuts import Network
from beamheads.errors import InvalidAssignment, InvalidPrices, NoAssignment
from beamheads.links import link_word, links

# Names of jobs are not empty, so that these are no nodes.
START = ("", 0)
GOAL = ("", 1)


def are_integers(value, many):
    return is_list(value) and len(value) == many and all([is_integer(price) for price in value])


def check_prices(book, prices):
    if not isinstance(prices, dict) or len(prices) != len(book) or not all([name in book for name in prices]):
        raise InvalidPrices(None)
    for name in book.names():
        if not are_integers(prices[name], len(book.beam)):
            raise InvalidPrices(name)


def sum_of(prices, assignment):
    return sum([prices[name][assignment[name] - 1] for name in assignment])


def rises_of(book, prices):
    """For each node with a number from 2 to n, by how much its head is dearer than the one left of it."""
    return {(name, number): prices[name][number - 1] - prices[name][number - 2]
            for name in book.names() for number in range(2, len(book.beam) + 1)}


def carrying_links(book):
    """The links that amounts are needed on, as pairs of nodes; all others follow from them."""
    return [(node, following) for node, following, _ in links(book) if following[1] > 1]


def network_of(book, prices):
    """The network of a book that has an assignment; a node holds in the cheapest one if it stays with the start."""
    rises = rises_of(book, prices)
    beyond = sum([abs(rise) for rise in rises.values()]) + 1
    most = {link: beyond for link in carrying_links(book)}
    for node in rises:
        if rises[node] < 0:
            most[START, node] = -rises[node]
        elif rises[node] > 0:
            most[node, GOAL] = rises[node]
    for name in book.names():
        most[START, (name, 1)] = beyond
        most[(name, len(book.beam) + 1), GOAL] = beyond
    return Network(most, START, GOAL)


def check_done(book):
    if least_assignment(book) is None:
        raise NoAssignment()


def find_cheapest(book, prices):
    """The same as cheapest, for prices that are checked and a book that has an assignment."""
    network = network_of(book, prices)
    numbers = book.table.head_numbers()
    assignment = {name: max([k for k in numbers if network.stays((name, k))]) for name in book.names()}
    return (assignment, sum_of(prices, assignment))


def price_of(book, prices, assignment):
    check_prices(book, prices)
    check_assignment(book, assignment)
    return sum_of(prices, assignment)


def cheapest(book, prices):
    check_prices(book, prices)
    check_done(book)
    return find_cheapest(book, prices)


def amounts_for(book, prices):
    check_prices(book, prices)
    check_done(book)
    network = network_of(book, prices)
    pairs = sorted(carrying_links(book))
    return {pair: network.flow(pair[0], pair[1]) for pair in pairs if network.flow(pair[0], pair[1]) > 0}


def is_carrying(book, value):
    """Whether the value is a link as a pair of nodes, and no drop to the number 1."""
    if not isinstance(value, tuple) or len(value) != 2:
        return False
    return link_word(book, value[0], value[1]) is not None and value[1][1] > 1


def are_amounts(book, value):
    if not isinstance(value, dict):
        return False
    return all([is_carrying(book, link) and is_positive(value[link]) for link in value])


def bound_of(book, prices, amounts):
    check_prices(book, prices)
    if not are_amounts(book, amounts):
        return None
    spare = rises_of(book, prices)
    bound = sum([prices[name][0] for name in prices])
    for (node, following), amount in amounts.items():
        if node[1] == 1:
            bound = bound + amount
        else:
            spare[node] += amount
        if following in spare:
            spare[following] -= amount
    return bound + sum([min(0, rest) for rest in spare.values()])


def fewest_changes(book, wanted):
    if not is_part_numbering(book, wanted):
        raise InvalidAssignment(wanted)
    check_done(book)
    numbers = book.table.head_numbers()
    prices = {name: [int(wanted.get(name, number) != number) for number in numbers] for name in book.names()}
    return find_cheapest(book, prices)
