"""What makes wrong cuts right: kinds that are taken out, and parameters that are promised to be unlike."""

from finestcuts.errors import InvalidCuts
from finestcuts.finest import need_cutting
from finestcuts.kinds import Kind, is_unlike_pair
from finestcuts.subsets import is_part, subsets
from finestcuts.systems import System
from finestcuts.wrongs import found_wrong

MOST_PAIRS = 8


def is_right_without(cutting, names):
    """Whether a cutting, restricted to the kinds of other names, is right."""
    system = cutting.system
    kinds = tuple([kind for kind in system.kinds if kind.name not in names])
    if not kinds:
        return True
    cuts = [(name, position) for name, position in cutting.cuts if name not in names]
    return found_wrong(System(kinds, system.most), cuts) == []


def without(cutting):
    """The list of all least tuples of kinds without which a cutting is right."""
    need_cutting(cutting)
    found = []
    for names in subsets(sorted(cutting.system.names)):
        if not any([is_part(least, names) for least in found]) and is_right_without(cutting, names):
            found.append(names)
    return sorted(found)


def is_promise(system, value):
    """Whether any value tells a kind and what is unlike in it."""
    if type(value) is not tuple or len(value) != 3:
        return False
    name, parameter, other = value
    return name in system and is_unlike_pair((parameter, other), system[name].parameters)


def need_promises(system, pairs):
    """Raises the error for what is no list of promises."""
    if type(pairs) is not list or len(pairs) > MOST_PAIRS:
        raise InvalidCuts(pairs)
    for pair in pairs:
        if not is_promise(system, pair):
            raise InvalidCuts(pair)


def promised_kind(kind, promises):
    """A kind with more pairs of what is unlike."""
    pairs = list(kind.unlike)
    for name, parameter, other in promises:
        if name == kind.name and (parameter, other) not in pairs:
            pairs.append((parameter, other))
    unlike = tuple(pairs)
    return Kind(kind.name, kind.parameters, kind.steps, unlike, kind.backs, kind.alone, len(unlike))


def is_right_with(cutting, promises):
    """Whether a cutting is right if its kinds have these pairs of what is unlike, too."""
    system = cutting.system
    kinds = tuple([promised_kind(kind, promises) for kind in system.kinds])
    return found_wrong(System(kinds, system.most + MOST_PAIRS), cutting.cuts) == []


def widened(cutting, pairs, chosen):
    """As many indices as possible, the chosen ones among them, with whose pairs a cutting is still wrong."""
    for at in range(len(pairs)):
        if at not in chosen and not is_right_with(cutting, [pairs[index] for index in (*chosen, at)]):
            chosen = (*chosen, at)
    return chosen


def promised(cutting, pairs):
    """The first of the shortest tuples of indices of pairs with which a cutting is right, or None."""
    need_cutting(cutting)
    need_promises(cutting.system, pairs)
    # More pairs never make a cutting wrong: what is wrong with some of them is wrong with each part of these.
    wrong = []
    for chosen in subsets(list(range(len(pairs)))):
        if not any([is_part(chosen, indices) for indices in wrong]):
            if is_right_with(cutting, [pairs[index] for index in chosen]):
                return chosen
            wrong.append(widened(cutting, pairs, chosen))
    return None
