"""Calls, their deeds, and what whole calls do with a store."""

from finestcuts.errors import InvalidCall, InvalidStore
from finestcuts.stores import is_store, without_zeros


def value_of(index, known):
    """The value of an integer or of a parameter, known being the values of the parameters."""
    return known[index] if type(index) is str else index


def are_values(kind, value):
    """Whether any value can be the values of the parameters of a kind."""
    if type(value) is not tuple or len(value) != len(kind.parameters):
        return False
    if not all([type(number) is int for number in value]):
        return False
    known = dict(zip(kind.parameters, value))
    return all([known[one] != value_of(other, known) for one, other in kind.unlike])


def are_choices(kind, value):
    """Whether any value can be the choices of a call of a kind."""
    if type(value) is not tuple or len(value) != len(kind.chooses):
        return False
    return all([type(choice) is int and choice in (0, 1) for choice in value])


def is_stop(kind, value):
    """Whether any value tells where a call of a kind stops, or that it does not."""
    return value is None or (type(value) is int and value in kind.checks)


def is_call(system, value):
    """Whether any value is a call."""
    if type(value) is not tuple or len(value) != 4:
        return False
    name, values, choices, stop = value
    if name not in system:
        return False
    kind = system[name]
    return are_values(kind, values) and are_choices(kind, choices) and is_stop(kind, stop)


def item_of(place, known):
    """The item of a place, known being the values of the parameters."""
    table, index = place
    return (table, value_of(index, known))


def deeds_of(system, call):
    """The list of the deeds of a call as if it did not stop, each with its step and its item."""
    if not is_call(system, call):
        raise InvalidCall(call)
    name, values, choices, _ = call
    kind = system[name]
    known = dict(zip(kind.parameters, values))
    chosen = dict(zip(kind.chooses, choices))
    return [
        (step, deed, item_of(deed[1], known))
        for (step, side), deed in zip(kind.spots, kind.deeds)
        if side is None or side == chosen[step]
    ]


def amount_of(value, known):
    """The value of a sum, known being the values of the parameters and locals."""
    _, constant, terms = value
    return constant + sum([factor * known[name] for factor, name in terms])


def apply(deed, item, value, amount):
    """The value of an item after a deed, value being the one ahead of it and amount that of its sum."""
    word = deed[0]
    if word == "add":
        return value + amount
    if word == "raise":
        return max(value, amount)
    if word == "lower":
        return min(value, amount)
    return amount if word == "put" else value


def first_values(system, call):
    """The values of the parameters of a call, and of its locals, ahead of its deeds."""
    name, values, _, _ = call
    known = dict(zip(system[name].parameters, values))
    for local in system[name].local_names:
        known[local] = 0
    return known


def values_of_locals(system, call, known):
    """The values of the locals of a call, known having those of its parameters, too."""
    return {local: known[local] for local in system[call[0]].local_names}


def do_deed(deed, item, store, known):
    """Performs a deed: changes the store, or the value of a local in known."""
    word, _, last = deed
    value = store.get(item, 0)
    if word == "read":
        known[last] = value
    else:
        store[item] = apply(deed, item, value, amount_of(last, known))


def perform(system, call, store):
    """The store after a whole call, and the values of its locals."""
    deeds = deeds_of(system, call)
    if not is_store(store):
        raise InvalidStore(store)
    after = without_zeros(store)
    known = first_values(system, call)
    if call[3] is None:
        for _, deed, item in deeds:
            do_deed(deed, item, after, known)
    return (without_zeros(after), values_of_locals(system, call, known))
