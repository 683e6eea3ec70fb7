"""What every file needs to read the values that it is given."""

from everychange.errors import NoPlace


def is_number(thing):
    """Whether thing is a number: True and False are none."""
    return isinstance(thing, int) and not isinstance(thing, bool)


def is_count(thing):
    """Whether thing is a number from 0."""
    return is_number(thing) and thing >= 0


def is_tuple(thing, many):
    """Whether thing is a tuple of so many."""
    return isinstance(thing, tuple) and len(thing) == many


def is_ascending(items):
    """Whether each of the items is less than the next one."""
    return all([items[at] < items[at + 1] for at in range(len(items) - 1)])


def is_set(thing):
    """Whether thing is an ascending tuple of numbers, each once."""
    return isinstance(thing, tuple) and all([is_number(item) for item in thing]) and is_ascending(thing)


def unit(place, many):
    """The tuple of many numbers that has 1 at this place, 0 elsewhere."""
    return tuple([int(at == place) for at in range(many)])


def check_place(place, many):
    """Raises NoPlace if this is none of the places from 0 to many - 1."""
    if not 0 <= place < many:
        raise NoPlace(place)


def frozen(value):
    """The value with tuples in the place of lists, at any depth."""
    if not isinstance(value, (list, tuple)):
        return value
    items = []
    for item in value:
        items.append(frozen(item))
    return tuple(items)
