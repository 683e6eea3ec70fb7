"""What the tests share: values compared with their kinds, calls in all the ways that are let, values bent."""

import copy
import inspect
import unittest
from fractions import Fraction

ZERO, ONE, HALF = (0, 1), (1, 1), (1, 2)


def kind_of(value):
    """The value with the kind of each of its parts, so that True is not 1 and a list is no tuple."""
    if isinstance(value, (list, tuple)):
        return (type(value).__name__, [kind_of(item) for item in value])
    return (type(value).__name__, value)


def listed(value):
    """The value with lists for tuples, at any depth."""
    if isinstance(value, (list, tuple)):
        return [listed(item) for item in value]
    return value


def tupled(value):
    """The value with tuples for lists, at any depth."""
    if isinstance(value, (list, tuple)):
        return tuple(tupled(item) for item in value)
    return value


def half_listed(value, depth=0):
    """The value with lists for tuples at every second depth."""
    if isinstance(value, (list, tuple)):
        items = [half_listed(item, depth + 1) for item in value]
        return items if depth % 2 else tuple(items)
    return value


def empty(value):
    """Empties the lists in value, to see that they belong to the caller."""
    if isinstance(value, list):
        for item in value:
            empty(item)
        value.clear()


def bent(thing):
    """The thing with one place of another kind: none of these is what the thing is."""
    for other in (None, "", "x", True, False, [], "1"):
        yield other
    if isinstance(thing, tuple):
        yield list(thing)
        yield thing + (None,)
        for at, item in enumerate(thing):
            for other in bent(item):
                yield thing[:at] + (other,) + thing[at + 1:]
    elif isinstance(thing, int):
        yield str(thing)
        yield (thing,)


def ratio(x):
    """The FRACTION as Python's own."""
    return Fraction(*x)


def pair(x):
    """Python's own Fraction as a FRACTION."""
    x = Fraction(x)
    return (x.numerator, x.denominator)


class Case(unittest.TestCase):
    """Calls in all the ways that are let."""

    def same(self, found, expected, message=None):
        self.assertEqual(kind_of(found), kind_of(expected), message)

    def ways(self, function, arguments):
        """The calls of function with these arguments, a dict."""
        arguments = {name: arguments[name] for name in inspect.signature(function).parameters}

        def changed(change):
            return {name: value if name == "thing" else change(value) for name, value in arguments.items()}
        for change in (tupled, listed, half_listed, tupled):
            given = copy.deepcopy(changed(change))
            yield given, lambda given=given: function(*given.values())
            yield given, lambda given=given: function(**given)

    def gives(self, expected, function, **arguments):
        """By place, by name, with lists for tuples, again and again: the same; what is passed in stays as it is."""
        for given, call in self.ways(function, arguments):
            before = copy.deepcopy(given)
            found = call()
            self.same(found, expected, function.__name__)
            self.same(list(given.values()), list(before.values()), "what is passed in has changed")
            empty(found)
            self.same(call(), expected, "a second call tells something else")
            self.same(list(given.values()), list(before.values()), "what is returned is not new")

    def raises(self, error, function, **arguments):
        """The call raises this error, in all ways; returns the last one."""
        for given, call in self.ways(function, arguments):
            before = copy.deepcopy(given)
            with self.assertRaises(error) as caught:
                call()
            self.assertIs(type(caught.exception), error)
            self.same(list(given.values()), list(before.values()), "what is passed in has changed")
        return caught.exception

    def no_place(self, place, function, **arguments):
        from everychange.errors import NoPlace
        self.same(self.raises(NoPlace, function, **arguments).place, place)

    def is_one(self, function, things, **arguments):
        """Each of things is one."""
        for thing in things:
            self.gives(True, function, **dict(arguments, thing=thing))

    def is_none(self, function, things, **arguments):
        """None of things is one."""
        for thing in things:
            self.same(function(**dict(arguments, thing=thing)), False, repr(thing)[:200])

    def only_unbent(self, function, thing, **arguments):
        """thing is one, and is none with one place of another kind."""
        self.is_one(function, [thing], **arguments)
        self.is_none(function, bent(thing), **arguments)
