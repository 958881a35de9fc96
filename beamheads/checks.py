"""What values are, and the checks that many files need."""

from beamheads.errors import InvalidName, InvalidNumber, UnknownNumber


def is_integer(value):
    """Whether the value is an integer; True and False are none."""
    return isinstance(value, int) and not isinstance(value, bool)


def is_count(value):
    return is_integer(value) and value >= 0


def is_positive(value):
    return is_integer(value) and value >= 1


def is_name(value):
    if not isinstance(value, str) or not 1 <= len(value) <= 8:
        return False
    return all(["a" <= letter <= "z" for letter in value])


def is_list(value):
    """Whether the value can stand where the document says list."""
    return isinstance(value, (list, tuple))


def is_pair(value):
    """Whether the value is a tuple of two integers."""
    return isinstance(value, tuple) and len(value) == 2 and is_integer(value[0]) and is_integer(value[1])


def check_integer(value):
    if not is_integer(value):
        raise InvalidNumber(value)


def check_count(value):
    if not is_count(value):
        raise InvalidNumber(value)


def check_positive(value):
    if not is_positive(value):
        raise InvalidNumber(value)


def check_name(value):
    if not is_name(value):
        raise InvalidName(value)


def check_head_number(value, many, least=1):
    """Raise UnknownNumber unless the value is the number of one of so many heads, from least on."""
    if not is_integer(value) or not least <= value <= many:
        raise UnknownNumber(value)
