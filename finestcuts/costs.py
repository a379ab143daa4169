"""Costs of chains of steps."""

from finestcuts.errors import InvalidCosts, InvalidOrder
from finestcuts.forms import is_name
from finestcuts.keeping import deeds_of_step, is_chain_of

MOST_COST = 1000


def is_cost(value):
    """Whether any value is an integer from 0 to 1000."""
    return type(value) is int and 0 <= value <= MOST_COST


def is_named(value):
    """Whether any value is None or a dict whose keys are names."""
    return value is None or type(value) is dict and all([is_name(name) for name in value])


def are_costs(value):
    """Whether any value is a tuple of costs."""
    return type(value) is tuple and all([is_cost(cost) for cost in value])


def copied(table):
    """A new dict with what a dict has, or None."""
    return None if table is None else {name: table[name] for name in table}


class Costs:
    """How long steps take, how much tables weigh, and what a piece costs besides."""

    def __init__(self, durations=None, weights=None, price=0):
        if not is_named(durations) or not all([are_costs(row) for row in (durations or {}).values()]):
            raise InvalidCosts(durations)
        if not is_named(weights) or not all([is_cost(weight) for weight in (weights or {}).values()]):
            raise InvalidCosts(weights)
        if not is_cost(price):
            raise InvalidCosts(price)
        self.kept_durations = copied(durations)
        self.kept_weights = copied(weights)
        self.price = price

    @property
    def durations(self):
        """A new dict from names of kinds to the durations of their steps, or None."""
        return copied(self.kept_durations)

    @property
    def weights(self):
        """A new dict from tables to their weights, or None."""
        return copied(self.kept_weights)

    def durations_of(self, kind):
        """The tuple of the durations of the steps of a kind."""
        if self.kept_durations is None or kind.name not in self.kept_durations:
            return (1,) * len(kind)
        return self.kept_durations[kind.name]

    def weight_of(self, table):
        """The weight of a table."""
        if self.kept_weights is None or table not in self.kept_weights:
            return 1
        return self.kept_weights[table]

    def cost_of_piece(self, kind, piece):
        """What a piece of a kind costs: it holds all its items for its whole duration."""
        given = self.durations_of(kind)
        places = {deed[1]: True for step in piece for deed in deeds_of_step(kind.steps[step])}
        weight = sum([self.weight_of(table) for table, _ in places])
        return sum([given[step] for step in piece]) * weight + self.price

    def __call__(self, kind, chain):
        given = self.durations_of(kind)
        if len(given) != len(kind):
            raise InvalidCosts(given)
        if not is_chain_of(kind, chain):
            raise InvalidOrder(chain)
        return sum([self.cost_of_piece(kind, piece) for piece in chain])

    def __eq__(self, other):
        return (
            type(other) is Costs
            and self.kept_durations == other.kept_durations
            and self.kept_weights == other.kept_weights
            and self.price == other.price
        )
