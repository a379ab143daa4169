"""How places, sums and deeds are written, and numbers, cuts and the items of stores."""


def write_place(place):
    """The text of a place or an item."""
    table, index = place
    return f"{table}[{index}]"


def write_term(size, name):
    """The text of a term without its sign, size being its factor without it."""
    if size == 1:
        return name
    return f"{size} * {name}"


def parts_of_sum(value):
    """What is written of a sum, in order: whether each part is below 0, and its text without the sign."""
    _, constant, terms = value
    parts = [(factor < 0, write_term(abs(factor), name)) for factor, name in terms]
    if constant == 0 and terms:
        return parts
    return [*parts, (constant < 0, str(abs(constant)))]


def write_sum(value):
    """The text of a sum."""
    parts = parts_of_sum(value)
    is_below, first = parts[0]
    joined = [f" - {text}" if below else f" + {text}" for below, text in parts[1:]]
    return ("-" if is_below else "") + first + "".join(joined)


def write_deed(deed):
    """The text of a deed, without indentation."""
    word, place, last = deed
    shown = last if word == "read" else write_sum(last)
    return f"{word} {write_place(place)} {shown}"


def write_numbers(numbers):
    """The text of integers."""
    return " ".join([str(number) for number in numbers])


def write_cuts(cuts):
    """The text of cuts."""
    return " ".join([f"{name}:{position}" for name, position in cuts])


def write_store(store):
    """The text of a store."""
    return " ".join([f"{write_place(item)}={worth}" for item, worth in sorted(list(store.items()))])
