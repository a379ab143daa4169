"""Kinds of transactions."""

from finestcuts.errors import InvalidKind
from finestcuts.forms import are_different_names, is_name, is_pair, is_short_integer
from finestcuts.steps import are_steps, do_steps_fit, names_read, placed_deeds


def are_parameters(value):
    """Whether any value can be the parameters of a kind."""
    return type(value) is tuple and len(value) <= 4 and are_different_names(value)


def is_unlike_pair(value, parameters):
    """Whether any value is a pair of what is unlike in a kind with these parameters."""
    if not is_pair(value):
        return False
    one, other = value
    if type(one) is not str or one not in parameters:
        return False
    if type(other) is not str:
        return is_short_integer(other)
    return other in parameters[parameters.index(one) + 1 :]


def are_unlike_pairs(value, parameters, most):
    """Whether any value can be what is unlike in a kind with these parameters."""
    if type(value) is not tuple or len(value) > most:
        return False
    if not all([is_unlike_pair(pair, parameters) for pair in value]):
        return False
    return len(set(value)) == len(value)


def is_truth(value):
    """Whether any value is True or False."""
    return value is True or value is False


def step_numbers(steps, word):
    """The ascending tuple of the steps that begin with this word."""
    return tuple([at for at, step in enumerate(steps) if step[0] == word])


def wrong_part(name, parameters, steps, unlike, backs, alone, most):
    """The name of the first wrong part of a kind, or None."""
    if not is_name(name):
        return "name"
    if not are_parameters(parameters):
        return "parameters"
    if not are_steps(steps) or not do_steps_fit(steps, parameters):
        return "steps"
    if not are_unlike_pairs(unlike, parameters, most):
        return "unlike"
    if not is_truth(backs):
        return "backs"
    if not is_truth(alone):
        return "alone"
    return None


class Kind:
    """A kind of transactions: a row of steps, with parameters and pairs of what is unlike."""

    def __init__(self, name, parameters, steps, unlike=(), backs=False, alone=False, most=6):
        part = wrong_part(name, parameters, steps, unlike, backs, alone, most)
        if part is not None:
            raise InvalidKind(part)
        placed = placed_deeds(steps)
        self.name = name
        self.parameters = parameters
        self.steps = steps
        self.unlike = unlike
        self.backs = backs
        self.alone = alone
        self.deeds = tuple([deed for _, deed in placed])
        self.spots = tuple([spot for spot, _ in placed])
        self.local_names = tuple(sorted(set(names_read(self.deeds))))
        self.checks = step_numbers(steps, "check")
        self.chooses = step_numbers(steps, "choose")

    def __len__(self):
        return len(self.steps)

    def __eq__(self, other):
        # What else a kind has follows from these.
        return (
            type(other) is Kind
            and self.name == other.name
            and self.parameters == other.parameters
            and self.steps == other.steps
            and self.unlike == other.unlike
            and self.backs == other.backs
            and self.alone == other.alone
        )
