"""Deeds: what a step of a transaction does with one item, and which deeds clash."""

from finestcuts.errors import InvalidItem
from finestcuts.forms import is_headed, is_name, is_pair, is_short_integer

CHANGES = ("add", "raise", "lower", "put")


def is_place(value):
    """Whether any value has the form of a place, with any name as its index."""
    if not is_pair(value):
        return False
    table, index = value
    return is_name(table) and (is_name(index) or is_short_integer(index))


def is_term(value):
    """Whether any value has the form of a term of a sum."""
    if not is_pair(value):
        return False
    factor, name = value
    return is_short_integer(factor) and factor != 0 and is_name(name)


def is_sum(value):
    """Whether any value has the form of a sum, with any names."""
    if not is_headed(value, ("sum",), 3):
        return False
    _, constant, terms = value
    if not is_short_integer(constant) or type(terms) is not tuple:
        return False
    if not all([is_term(term) for term in terms]):
        return False
    return all([terms[at][1] < terms[at + 1][1] for at in range(len(terms) - 1)])


def is_deed(value):
    """Whether any value has the form of a deed, with any names."""
    if is_headed(value, ("read",), 3):
        return is_place(value[1]) and is_name(value[2])
    return is_headed(value, CHANGES, 3) and is_place(value[1]) and is_sum(value[2])


def are_alike(one, other):
    """Whether two deeds on the same item can always be exchanged."""
    if one[0] != other[0]:
        return False
    if one[0] != "put":
        return True
    # A sum with terms can have another value in the other call.
    return one[2] == other[2] and not one[2][2]


def are_clashing(one, other):
    """Whether two deeds, which are known to be such, clash by kind."""
    return one[1][0] == other[1][0] and not are_alike(one, other)


def do_clash(one, other):
    """Whether two deeds clash by kind; deeds on different tables do not."""
    for deed in (one, other):
        if not is_deed(deed):
            raise InvalidItem(deed)
    return are_clashing(one, other)
