"""Orders of the steps of kinds: which sets of steps are free, the cheapest chain, and why none is cheaper."""

from finestcuts.costs import Costs
from finestcuts.cuttings import Cutting
from finestcuts.errors import InvalidCosts, InvalidOrder, InvalidSystem, UnknownKind
from finestcuts.keeping import is_chain_of, kept_pairs
from finestcuts.kinds import Kind
from finestcuts.marks import Points, loops_of
from finestcuts.subsets import is_part, subsets, without_part
from finestcuts.systems import System
from finestcuts.ways import need_kind
from finestcuts.wrongs import is_free


def need_costs(system, name, costs):
    """Raises the errors for a wrong system, an unknown kind, and wrong costs."""
    need_kind(system, name)
    if type(costs) is not Costs:
        raise InvalidCosts(costs)
    given = costs.durations_of(system[name])
    if len(given) != len(system[name]):
        raise InvalidCosts(given)


def keeps(kind):
    """The ascending list of the pairs of steps of a kind that must keep their order."""
    return kept_pairs(kind)


def is_chain(kind, value):
    """Whether any value is a chain of a kind."""
    return is_chain_of(kind, value)


def sets_of_chains(kind):
    """The list of all sets of steps that chains can cut off, from the empty to the whole one, shorter ones ahead."""
    kept = kept_pairs(kind)
    return [
        steps
        for steps in subsets(list(range(len(kind))))
        if not any([last in steps and first not in steps for first, last in kept])
    ]


def stops_of_chains(system, kind):
    """The list of those of these sets that are free; the empty and the whole one always are."""
    pairs = loops_of(Points(system), kind)
    return [steps for steps in sets_of_chains(kind) if is_free(kind, steps, pairs)]


def free_sets(system, name):
    """The ascending list of all free sets that chains can cut off, without the empty and the whole one."""
    need_kind(system, name)
    kind = system[name]
    return sorted([steps for steps in stops_of_chains(system, kind) if 0 < len(steps) < len(kind)])


def best_rests(system, name, costs):
    """The dict from all free sets to the least cost of what is behind, and the first row of pieces of this cost."""
    kind = system[name]
    found = {}
    for steps in stops_of_chains(system, kind)[::-1]:
        # The longer sets come first, so that all further ones are found already.
        rests = [(without_part(further, steps), found[further]) for further in found if is_part(steps, further)]
        rows = [(costs.cost_of_piece(kind, piece) + cost, (piece, *pieces)) for piece, (cost, pieces) in rests]
        found[steps] = min(rows) if rows else (0, ())
    return found


def cheapest(system, name, costs):
    """The pair of the least cost of the right chains of a kind and the first of these."""
    need_costs(system, name, costs)
    return best_rests(system, name, costs)[()]


def heights(system, name, costs):
    """The dict from all free sets, the empty and the whole one to the least cost of what is behind."""
    need_costs(system, name, costs)
    return {steps: cost for steps, (cost, _) in sorted(best_rests(system, name, costs).items())}


def is_set_of(value, stops):
    """Whether any value is one of these sets of steps."""
    return type(value) is tuple and all([type(step) is int for step in value]) and value in stops


def is_heights(system, name, costs, value):
    """Whether any value tells for each free set at most what lies behind it must cost."""
    need_costs(system, name, costs)
    kind = system[name]
    stops = stops_of_chains(system, kind)
    if type(value) is not dict or len(value) != len(stops):
        return False
    if not all([is_set_of(steps, stops) for steps in value]):
        return False
    if not all([type(cost) is int for cost in value.values()]) or value[stops[-1]] != 0:
        return False
    return all(
        [
            value[steps] <= costs.cost_of_piece(kind, without_part(further, steps)) + value[further]
            for steps in stops
            for further in stops
            if len(steps) < len(further) and is_part(steps, further)
        ]
    )


def need_chains(system, chains):
    """Raises the errors for what is no dict from names of kinds to chains of these."""
    if type(chains) is not dict:
        raise InvalidOrder(chains)
    for name in chains:
        if name not in system:
            raise UnknownKind(name)
    for name in sorted(list(chains)):
        if not is_chain_of(system[name], chains[name]):
            raise InvalidOrder(chains[name])


def ordered_kind(kind, chain):
    """A kind with its steps in the order of a chain."""
    steps = tuple([kind.steps[step] for piece in chain for step in piece])
    return Kind(kind.name, kind.parameters, steps, kind.unlike, kind.backs, kind.alone, len(kind.unlike))


def cuts_of_chain(name, chain):
    """The list of the cuts between the pieces of a chain."""
    return [(name, sum([len(piece) for piece in chain[:at]])) for at in range(1, len(chain))]


def ordered(system, chains):
    """The cutting of the system whose kinds have their steps in the order of their chains, cut as these are."""
    if type(system) is not System:
        raise InvalidSystem(system)
    need_chains(system, chains)
    kinds = tuple([ordered_kind(kind, chains[kind.name]) if kind.name in chains else kind for kind in system.kinds])
    cuts = [cut for name in chains for cut in cuts_of_chain(name, chains[name])]
    return Cutting(System(kinds, system.most), cuts)
