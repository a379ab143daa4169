"""Sets of a few values, kept as ascending tuples."""


def subsets(values):
    """The list of all ascending tuples of ascending values, the shorter ones ahead, each length in list order."""
    found = [()]
    for value in values:
        found = found + [(*chosen, value) for chosen in found]
    return [chosen for _, chosen in sorted([(len(chosen), chosen) for chosen in found])]


def is_part(one, other):
    """Whether all members of the one are in the other."""
    return all([member in other for member in one])


def without_part(one, other):
    """The tuple of the members of the one that are not in the other."""
    return tuple([member for member in one if member not in other])
