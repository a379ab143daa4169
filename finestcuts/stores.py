"""Items and stores."""

from finestcuts.forms import is_name, is_pair


def is_item(value):
    """Whether any value is an item."""
    return is_pair(value) and is_name(value[0]) and type(value[1]) is int


def is_store(value):
    """Whether any value is a store."""
    if type(value) is not dict:
        return False
    return all([is_item(item) and type(worth) is int for item, worth in value.items()])


def without_zeros(store):
    """A new dict of the items of a store whose value is not 0."""
    return {item: worth for item, worth in store.items() if worth != 0}
