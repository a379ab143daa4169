"""What the document says of runs and ways, written down a second time, slowly and plainly, for the tests."""

import itertools


def kind_of(system, name):
    return {kind.name: kind for kind in system.kinds}[name]


def do_clash_by_kind(one, other):
    """Whether two deeds clash by kind, told from their words."""
    if one[1][0] != other[1][0]:
        return False
    if one[0] == other[0] == "put":
        return one[2] != other[2] or one[2][2] != ()
    return one[0] != other[0]


def do_meet(one, other):
    """Whether two deeds with their items do not commute."""
    return one[1] == other[1] and do_clash_by_kind(one[0], other[0])


def values_of(kind, domain):
    """All tuples of values of the domain that the parameters of a kind may have."""
    for values in itertools.product(domain, repeat=len(kind.parameters)):
        known = dict(zip(kind.parameters, values, strict=True))
        if all(known[one] != known.get(other, other) for one, other in kind.unlike):
            yield values


def whole_calls(system, domain):
    """All calls with values of the domain that do not stop."""
    for kind in system.kinds:
        for values in values_of(kind, domain):
            for choices in itertools.product((0, 1), repeat=len(kind.chooses)):
                yield (kind.name, values, choices, None)


def placed(kind, values, deed):
    """A deed of a kind, told by its number, with its item."""
    word, (table, index), last = kind.deeds[deed]
    known = dict(zip(kind.parameters, values, strict=True))
    return ((word, (table, index), last), (table, known.get(index, index)))


def steps_of_call(system, call):
    """The list of pairs (step, deeds with their items) of a call, as if it did not stop."""
    kind = kind_of(system, call[0])
    known = dict(zip(kind.parameters, call[1], strict=True))
    choices = list(call[2])
    found = []
    for at, step in enumerate(kind.steps):
        deeds = () if step[0] == "check" else (step,)
        if step[0] == "choose":
            deeds = step[1 + choices.pop(0)]
        found.append((at, [(deed, (deed[1][0], known.get(deed[1][1], deed[1][1]))) for deed in deeds]))
    return found


def pieces_of(cutting, call):
    """The list of the pieces of a call: pairs of a word and deeds with their items."""
    kind = kind_of(cutting.system, call[0])
    ends = [0, *[position for name, position in cutting.cuts if name == call[0]], len(kind.steps)]
    pieces = []
    for first, behind in zip(ends, ends[1:]):
        if call[3] is not None and first <= call[3] < behind:
            backs = [("back", [row for row in deeds[::-1] if row[0][0] == "add"]) for _, deeds in pieces[::-1]]
            return [*pieces, ("stop", []), *(backs if kind.backs else [])]
        deeds = [row for at, rows in steps_of_call(cutting.system, call) for row in rows if first <= at < behind]
        pieces.append(("ahead", deeds))
    return pieces


def row_pieces(cutting, calls, row):
    """The pieces of a row, in order."""
    pieces = [pieces_of(cutting, call) for call in calls]
    return [pieces[number].pop(0) for number in row]


def meetings(cutting, calls):
    """For each two calls the list of pairs of pieces, told by their numbers, that do not commute."""
    pieces = [pieces_of(cutting, call) for call in calls]
    return {
        (one, other): [
            (at, place)
            for at, (_, deeds) in enumerate(pieces[one])
            for place, (_, acts) in enumerate(pieces[other])
            if any(do_meet(*pair) for pair in itertools.product(deeds, acts))
        ]
        for one, other in itertools.permutations(range(len(calls)), 2)
    }


def history_over(cutting, calls, row, store):
    """The store after a run, the locals of its calls, and what the reads of each piece got."""
    store = dict(store)
    known, history = [], []
    for name, values, _, _ in calls:
        kind = kind_of(cutting.system, name)
        known.append({**dict.fromkeys(kind.local_names, 0), **dict(zip(kind.parameters, values, strict=True))})
    added = [[] for _ in calls]
    for number, (word, deeds) in zip(row, row_pieces(cutting, calls, row), strict=True):
        got = []
        for (name, _, last), item in deeds if word != "back" else ():
            old = store.get(item, 0)
            if name == "read":
                known[number][last] = old
                got.append(old)
                continue
            amount = last[1] + sum(factor * known[number][term] for factor, term in last[2])
            store[item] = {"add": old + amount, "raise": max(old, amount), "lower": min(old, amount)}.get(name, amount)
            if name == "add":
                added[number].append((item, amount))
        for _, item in deeds if word == "back" else ():
            # The adds of the call are taken back in just the opposite order.
            place, amount = added[number].pop()
            assert place == item
            store[item] -= amount
        history.append(tuple(got))
    told = []
    for (name, _, _, _), values in zip(calls, known, strict=True):
        told.append({local: values[local] for local in kind_of(cutting.system, name).local_names})
    return {item: value for item, value in store.items() if value}, told, history


def run_over(cutting, calls, row, store):
    """The store after a run and the locals of its calls."""
    return history_over(cutting, calls, row, store)[:2]


def timely_at(row, place, counts, alone):
    """Whether each other alone call has none or all of its pieces ahead of a piece of an alone call."""
    others = [other for other in range(len(counts)) if alone[other] and other != row[place]]
    return not alone[row[place]] or all(row[:place].count(other) in (0, counts[other]) for other in others)


def is_timely(cutting, calls, row):
    """Whether a row is timely, looked at at each place."""
    counts = [len(pieces_of(cutting, call)) for call in calls]
    alone = [kind_of(cutting.system, call[0]).alone for call in calls]
    return all(timely_at(row, place, counts, alone) for place in range(len(row)))


def rows_of(cutting, calls):
    """All timely rows with which a run is over, ascending."""
    rows = [()]
    counts = [len(pieces_of(cutting, call)) for call in calls]
    alone = [kind_of(cutting.system, call[0]).alone for call in calls]
    for place in range(sum(counts)):
        rows = [(*row, number) for row in rows for number, count in enumerate(counts) if row.count(number) < count]
        rows = [row for row in rows if timely_at(row, place, counts, alone)]
    return rows


def arrows_in(row, met):
    """The set of all arrows of a row."""
    done, found = {}, set()
    for place, number in enumerate(row):
        done.setdefault(number, []).append(place)
    for (one, other), pairs in met.items():
        ends = (len(done.get(one, ())), len(done.get(other, ())))
        if any(at < ends[0] and to < ends[1] and done[one][at] < done[other][to] for at, to in pairs):
            found.add((one, other))
    return found


def arrows_of(cutting, calls, row):
    """The set of all arrows of a run, found from pairs of pieces."""
    return arrows_in(row, meetings(cutting, calls))


def has_ring(links, many):
    """Whether there is a ring: calls remain when those without arrows to them are taken away again and again."""
    rest = set(range(many))
    while True:
        free = {number for number in rest if not any(later == number and one in rest for one, later in links)}
        if not free:
            return bool(rest)
        rest -= free


def are_of_one_call(kind, one, other):
    """Whether one call can do both deeds."""
    (step, side), (place, hand) = kind.spots[one], kind.spots[other]
    return step != place or side == hand


def between(system, name, domain):
    """All other calls of ways of a kind, with values of the domain: (kind, values, entered, the deeds it can leave)."""
    kind = kind_of(system, name)
    for other in system.kinds:
        if kind.alone and other.alone:
            continue
        for values in values_of(other, domain):
            for entered in range(len(other.deeds)):
                lefts = [left for left in range(len(other.deeds)) if are_of_one_call(other, entered, left)]
                yield (other, values, entered, lefts)


def fewest(system, name, domain):
    """The dict from pairs of deeds between which there is a way to the fewest calls of one, values of the domain."""
    kind = kind_of(system, name)
    nodes = list(between(system, name, domain))
    by_item = {}
    for at, (other, values, entered, _) in enumerate(nodes):
        by_item.setdefault(placed(other, values, entered)[1], []).append(at)

    def entered_from(act):
        ahead = by_item.get(act[1], [])
        return [at for at in ahead if do_meet(act, placed(nodes[at][0], nodes[at][1], nodes[at][2]))]

    acts = [[placed(other, values, left) for left in lefts] for other, values, _, lefts in nodes]
    onward = [sorted({at for act in row for at in entered_from(act)}) for row in acts]
    found = {}
    for values in values_of(kind, domain):
        for first in range(len(kind.deeds)):
            ends = [e for e in range(len(kind.deeds)) if are_of_one_call(kind, first, e)]
            wanted = {last: placed(kind, values, last) for last in ends}
            seen, fresh, many = set(), entered_from(placed(kind, values, first)), 1
            while fresh:
                seen.update(fresh)
                for last, end in wanted.items():
                    if found.get((first, last), many + 1) > many:
                        if any(do_meet(act, end) for at in fresh for act in acts[at]):
                            found[first, last] = many
                fresh = sorted({at for ahead in fresh for at in onward[ahead]} - seen)
                many += 1
    return found
