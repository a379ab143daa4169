"""Orders of the steps of kinds, written down a second time, slowly and plainly, for the tests."""

import itertools


def all_chains(many):
    """All ways to put steps into a row of ascending pieces."""
    found = set()
    for steps in itertools.permutations(range(many)):
        for flags in itertools.product((True, False), repeat=many - 1):
            pieces = [[steps[0]]]
            for step, joined in zip(steps[1:], flags, strict=True):
                if joined:
                    pieces[-1].append(step)
                else:
                    pieces.append([step])
            if all(piece == sorted(piece) for piece in pieces):
                found.add(tuple(tuple(piece) for piece in pieces))
    return sorted(found)


def deeds_in(step):
    return [] if step[0] == "check" else list(step[1] + step[2]) if step[0] == "choose" else [step]


def must_keep(kind, one, other):
    """Whether two steps must keep their order, as the document lists the reasons."""
    deeds, acts = deeds_in(one), deeds_in(other)
    for deed, act in itertools.product(deeds, acts):
        same_word = deed[0] == act[0] and (deed[0] != "put" or (deed[2] == act[2] and deed[2][2] == ()))
        if deed[1][0] == act[1][0] and not same_word:
            first, second = deed[1][1], act[1][1]
            ints = type(first) is int and type(second) is int
            unlike = (first, second) in kind.unlike or (second, first) in kind.unlike
            if first == second or not ints and not unlike:
                return True
    reads, more = [{deed[2] for deed in rows if deed[0] == "read"} for rows in (deeds, acts)]
    named, also = [{name for deed in rows if deed[0] != "read" for _, name in deed[2][2]} for rows in (deeds, acts)]
    if reads & also or named & more or reads & more:
        return True
    checks = [step[0] == "check" for step in (one, other)]
    return all(checks) or checks[0] and bool(more) or checks[1] and bool(reads)


def is_chain(kind, chain):
    """Whether pieces with all steps keep the order of those that must."""
    place = {step: at for at, piece in enumerate(chain) for step in piece}
    pairs = itertools.combinations(range(len(kind)), 2)
    return all(place[u] <= place[v] for u, v in pairs if must_keep(kind, kind.steps[u], kind.steps[v]))


def kept_in(kind):
    """The list of the pairs of steps that must keep their order, ascending."""
    pairs = itertools.combinations(range(len(kind)), 2)
    return [(u, v) for u, v in pairs if must_keep(kind, kind.steps[u], kind.steps[v])]


def right_words(kind):
    return ("read", "add") if kind.backs else ("read",)


def is_free(kind, inside, ways):
    """Whether a set of steps is free, ways being the pairs of deeds of the kind between which there is a way."""
    steps = [step for step, _ in kind.spots]
    bad = {(min(steps[d], steps[e]), max(steps[d], steps[e])) for d, e in ways if steps[d] != steps[e]}
    if any((p in inside) != (q in inside) for p, q in bad):
        return False
    if not any(kind.steps[at][0] == "check" for at in range(len(kind)) if at not in inside):
        return True
    own = [deed for deed, step in enumerate(steps) if step in inside]
    if any(kind.deeds[deed][0] not in right_words(kind) for deed in own):
        return False
    return not (kind.backs and any(d in own and e in own and kind.deeds[e][0] == "add" for d, e in ways))


def cut_off(chain):
    """The sets of steps that a chain cuts off."""
    return [tuple(sorted(step for piece in chain[:at] for step in piece)) for at in range(1, len(chain))]


def chains_of(kind):
    """All chains of a kind, in list order."""
    return [chain for chain in all_chains(len(kind)) if is_chain(kind, chain)]


def cost_of(kind, chain, durations, weights, price):
    """What a chain costs, as the document says it."""
    total = 0
    for piece in chain:
        places = {deed[1] for step in piece for deed in deeds_in(kind.steps[step])}
        weight = sum((weights or {}).get(table, 1) for table, _ in places)
        times = (durations or {}).get(kind.name, (1,) * len(kind))
        total += sum(times[step] for step in piece) * weight + price
    return total
