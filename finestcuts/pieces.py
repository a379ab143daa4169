"""The pieces of calls, also of those that stop."""

from finestcuts.calls import deeds_of


def piece_of_step(pieces, step):
    """The index of the piece in which a step stands."""
    return len([first for first, _ in pieces if first <= step]) - 1


def piece_count(cutting, call):
    """How many pieces a call has."""
    name, _, _, stop = call
    pieces = cutting.pieces(name)
    if stop is None:
        return len(pieces)
    ahead = piece_of_step(pieces, stop)
    return 2 * ahead + 1 if cutting.system[name].backs else ahead + 1


def adds_of(deeds):
    """The adds among deeds with their items, the last one first."""
    return [(deed, item) for deed, item in deeds[::-1] if deed[0] == "add"]


def pieces_of_call(cutting, call):
    """The list of the pieces of a call: whether each is a back piece, and its deeds with their items.

    The deeds of a back piece are the adds that it takes back.
    """
    name, _, _, stop = call
    deeds = deeds_of(cutting.system, call)
    pieces = cutting.pieces(name)
    ahead = [
        (False, [(deed, item) for step, deed, item in deeds if first <= step < behind])
        for first, behind in pieces
    ]
    if stop is None:
        return ahead
    ahead = ahead[: piece_of_step(pieces, stop)]
    stopped = [*ahead, (False, [])]
    if not cutting.system[name].backs:
        return stopped
    return stopped + [(True, adds_of(deeds)) for _, deeds in ahead[::-1]]
