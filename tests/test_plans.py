import itertools
import unittest

from everychange.plans import is_plan, ways
from tests.helpers import HALF, ONE, ZERO, Case, bent

i, half, m = ONE, HALF, (-1, 1)
EULER = (("ask", "k", 0, "y"), ("mix", "z", ((i, "y"), (i, "k"))), ("tell", "z"))
MIDDLE = (("solve", (("mix", "g", ((i, "y"), (half, "k"))), ("ask", "k", 0, "g"))), ("mix", "z", ((i, "y"), (i, "k"))),
          ("tell", "z"))
heun = (1, (("heun", (("ask", "k", 0, "y"), ("mix", "t0", ((i, "y"), (i, "k"))), ("ask", "t1", 0, "t0"),
                      ("mix", "t2", ((i, "y"), (half, "k"), (half, "t1"))), ("tell", "t2"))),))
FORK = (("either", (("ask", "k", 0, "y"),), (("mix", "k", ((i, "y"), (m, "y"))),)), ("mix", "z", ((i, "y"), (i, "k"))),
        ("tell", "z"))
# A plan with every STEP.
every = (2, (("one", EULER), ("two", (("call", "a", "one", half, 2, "y"), ("ask", "b", 1, "a"),
                                      ("mix", "c", ((i, "a"), (half, "b"))), ("tell", "c"))),
             ("whole", (("back", "a", "two", m, "y"),
                        ("either", (("call", "d", "two", (2, 3), 1, "a"), ("tell", "d")),
                         (("solve", (("ask", "e", 1, "g"), ("mix", "g", ((i, "a"), (m, "e"))))), ("mix", "d", ((i, "g"),)))),
                        ("mix", "r", ()), ("mix", "r", ((i, "d"), ((7, 2), "r"))), ("tell", "r")))))


def plan(*steps, parts=2):
    return (parts, (("one", EULER), ("main", steps)))


def good_steps():
    """STEPS that make a PLAN, of a routine behind the routine one."""
    yield (("tell", "y"),)
    yield (("tell", "y"), ("tell", "y"))
    yield (("mix", "y", ((i, "y"),)), ("tell", "y"))
    yield (("ask", "y2", 1, "y"), ("tell", "y"))
    # A name that is given anew, also of another kind.
    yield (("ask", "a", 0, "y"), ("mix", "a", ((i, "y"), (i, "a"))), ("tell", "a"))
    yield (("mix", "a", ((i, "y"),)), ("ask", "a", 0, "a"), ("tell", "y"))
    # Points come to 1 or to 0, rises to anything; equal names may stand side by side.
    yield (("mix", "a", ((half, "y"), (half, "y"))), ("tell", "a"))
    yield (("mix", "a", ((i, "y"), (m, "y"))), ("mix", "b", (((5, 1), "a"), (i, "y"))), ("tell", "b"))
    yield (("mix", "a", ()), ("mix", "b", ((i, "a"), (i, "a"), (i, "y"))), ("tell", "b"))
    # Both sides tell; both sides leave a name as the same kind.
    yield (("either", (("tell", "y"),), (("tell", "y"), ("tell", "y"))),)
    yield (("either", (("ask", "a", 0, "y"),), (("mix", "a", ()),)), ("mix", "b", ((i, "y"), (i, "a"))), ("tell", "b"))
    yield (("mix", "a", ((i, "y"),)), ("either", (("mix", "b", ()),), (("mix", "b", ((i, "y"),)),)), ("tell", "a"))
    yield (("either", (("mix", "b", ()),), (("mix", "b", ((i, "y"),)),)), ("mix", "b", ((i, "y"),)), ("tell", "b"))
    # What is set ahead on one side, and by a solve behind, has other names.
    yield (("solve", (("mix", "g", ((i, "y"), (half, "k"))), ("ask", "k", 0, "g"))), ("tell", "g"))
    yield (("solve", (("ask", "k", 0, "g"), ("ask", "l", 1, "g"), ("mix", "g", ((i, "y"), (half, "k"), (half, "l"))))),
           ("tell", "g"))
    yield (("solve", (("ask", "k", 0, "y"),)), ("tell", "y"))
    yield (("solve", (("mix", "k", ((i, "y"),)),)), ("tell", "k"))
    yield (("solve", (("mix", "p", ((i, "y"), (i, "k"))), ("mix", "q", ((i, "p"),)), ("ask", "k", 0, "q"))), ("tell", "q"))
    yield (("solve", (("mix", "g", ((i, "y"), (half, "k"))), ("ask", "k", 0, "g"))), ("ask", "k", 1, "g"),
           ("mix", "g", ((i, "g"), (i, "k"))), ("tell", "g"))
    yield (("call", "a", "one", m, 9, "y"), ("back", "a", "one", (-7, 3), "a"), ("tell", "a"))


def bad_steps():
    """STEPS that make none, each for one reason."""
    yield ()
    yield (("ask", "k", 0, "y"),)
    # Not set, or of another kind.
    yield (("tell", "z"),)
    yield (("ask", "k", 0, "y"), ("tell", "k"))
    yield (("ask", "k", 0, "g"), ("tell", "y"))
    yield (("ask", "k", 0, "y"), ("ask", "l", 0, "k"), ("tell", "y"))
    yield (("mix", "a", ((i, "a"),)), ("tell", "y"))
    yield (("mix", "a", ((i, "y"), (i, "k"))), ("ask", "k", 0, "y"), ("tell", "y"))
    yield (("ask", "y", 0, "y"), ("tell", "y"))
    yield (("ask", "k", 0, "y"), ("call", "a", "one", i, 1, "k"), ("tell", "y"))
    yield (("ask", "k", 0, "y"), ("back", "a", "one", i, "k"), ("tell", "y"))
    yield (("call", "a", "one", i, 1, "b"), ("tell", "y"))
    yield (("back", "a", "one", i, "a"), ("tell", "y"))
    # The names of a called routine are its own.
    yield (("call", "a", "one", i, 1, "y"), ("tell", "z"))
    # FRACTIONS of points that come neither to 1 nor to 0, FRACTIONS that are 0 or none.
    yield (("mix", "a", ((half, "y"),)), ("tell", "y"))
    yield (("mix", "a", ((i, "y"), (i, "y"))), ("tell", "y"))
    yield (("mix", "a", ((m, "y"),)), ("tell", "y"))
    yield (("mix", "a", ((i, "y"), (ZERO, "y"))), ("tell", "y"))
    yield (("mix", "a", (((2, 2), "y"),)), ("tell", "y"))
    yield (("mix", "a", ((1, "y"),)), ("tell", "y"))
    yield (("mix", "a", (("y", i),)), ("tell", "y"))
    yield (("mix", "a", ("y",)), ("tell", "y"))
    # Parts, titles, numbers.
    yield (("ask", "k", 2, "y"), ("tell", "y"))
    yield (("ask", "k", -1, "y"), ("tell", "y"))
    yield (("ask", "k", True, "y"), ("tell", "y"))
    yield (("call", "a", "main", i, 1, "y"), ("tell", "a"))
    yield (("call", "a", "none", i, 1, "y"), ("tell", "a"))
    yield (("back", "a", "main", i, "y"), ("tell", "a"))
    yield (("call", "a", "one", ZERO, 1, "y"), ("tell", "a"))
    yield (("back", "a", "one", ZERO, "y"), ("tell", "a"))
    yield (("call", "a", "one", i, 0, "y"), ("tell", "a"))
    yield (("call", "a", "one", i, -2, "y"), ("tell", "a"))
    yield (("call", "a", "one", i, True, "y"), ("tell", "a"))
    yield (("call", "a", "one", i, "y"), ("tell", "a"))
    yield (("back", "a", "one", i, 1, "y"), ("tell", "a"))
    # Names that are titles, or no NAMES.
    for name in ("one", "main", "", "f0", "f12", "K", "a_", "a b", "2a", "parts", "solve", "either", "else", "tell", "over",
                 "times", "back", "abcdefghijklm", None, 7, ("a",), "a\n", "\u00e9"):
        yield (("mix", name, ((i, "y"),)), ("tell", "y"))
        yield (("ask", name, 0, "y"), ("tell", "y"))
        yield (("call", name, "one", i, 1, "y"), ("tell", "y"))
        yield (("back", name, "one", i, "y"), ("tell", "y"))
        yield (("solve", (("mix", name, ((i, "y"),)),)), ("tell", "y"))
        yield (("solve", (("ask", name, 0, "y"),)), ("tell", "y"))
    # A WAY on which nothing is told; sides that leave a name unlike or unset.
    yield (("either", (("tell", "y"),), (("mix", "a", ()),)),)
    yield (("either", (("mix", "a", ()),), (("either", (("tell", "y"),), (("mix", "a", ()),)),)),)
    yield (("either", (("mix", "a", ((i, "y"),)),), (("mix", "b", ((i, "y"),)),)), ("tell", "a"))
    yield (("either", (("mix", "a", ((i, "y"),)),), (("mix", "a", ()),)), ("tell", "a"))
    yield (("mix", "a", ((i, "y"),)), ("either", (("mix", "a", ()),), (("tell", "y"),)), ("tell", "a"))
    yield (("mix", "a", ((i, "y"),)), ("either", (("tell", "y"),), (("mix", "a", ()),)), ("tell", "a"))
    yield (("either", (), (("tell", "y"),)), ("tell", "y"))
    yield (("either", (("tell", "y"),), ()), ("tell", "y"))
    yield (("either", (("tell", "y"),)), ("tell", "y"))
    # What a solve may not do.
    yield (("solve", ()), ("tell", "y"))
    yield (("solve", (("tell", "y"),)), ("tell", "y"))
    yield (("solve", (("solve", (("ask", "k", 0, "y"),)),)), ("tell", "y"))
    yield (("solve", (("call", "a", "one", i, 1, "y"),)), ("tell", "y"))
    yield (("solve", (("back", "a", "one", i, "y"),)), ("tell", "y"))
    yield (("solve", (("either", (("ask", "k", 0, "y"),), (("ask", "k", 0, "y"),)),)), ("tell", "y"))
    yield (("solve", (("ask", "k", 0, "y"), ("ask", "k", 1, "y"))), ("tell", "y"))
    yield (("solve", (("mix", "g", ((i, "y"),)), ("mix", "g", ((i, "y"),)))), ("tell", "y"))
    yield (("solve", (("mix", "k", ((i, "y"),)), ("ask", "k", 0, "y"))), ("tell", "y"))
    yield (("solve", (("mix", "y", ((i, "y"),)),)), ("tell", "y"))
    yield (("solve", (("ask", "y", 0, "y"),)), ("tell", "y"))
    yield (("ask", "k", 0, "y"), ("solve", (("ask", "k", 0, "y"),)), ("tell", "y"))
    yield (("either", (("ask", "k", 0, "y"),), (("tell", "y"),)), ("solve", (("mix", "k", ((i, "y"),)),)), ("tell", "y"))
    yield (("either", (("tell", "y"),), (("ask", "k", 0, "y"),)), ("solve", (("mix", "k", ((i, "y"),)),)), ("tell", "y"))
    yield (("either", (("ask", "k", 0, "y"),), (("solve", (("mix", "k", ((i, "y"),)),)),)), ("tell", "y"))
    yield (("solve", (("mix", "k", ((i, "y"),)),)), ("solve", (("mix", "k", ((i, "y"),)),)), ("tell", "y"))
    # Mixes of mixes that come later, asks at rises, of parts that there are not, at what nobody sets.
    yield (("solve", (("mix", "p", ((i, "q"),)), ("mix", "q", ((i, "y"),)))), ("tell", "p"))
    yield (("solve", (("mix", "p", ((i, "p"),)),)), ("tell", "p"))
    yield (("solve", (("ask", "k", 0, "k"),)), ("tell", "y"))
    yield (("solve", (("ask", "k", 0, "l"), ("ask", "l", 0, "y"))), ("tell", "y"))
    yield (("solve", (("ask", "k", 0, "r"), ("mix", "r", ((i, "k"),)))), ("tell", "y"))
    yield (("solve", (("ask", "k", 2, "y"),)), ("tell", "y"))
    yield (("solve", (("ask", "k", 0, "g"),)), ("tell", "y"))
    yield (("solve", (("mix", "g", ((half, "y"), (half, "k"))), ("ask", "k", 0, "g"))), ("tell", "y"))
    # No STEPS.
    for step in ((), ("tell",), ("tell", "y", "y"), ("tell", None), ("say", "y"), ("ask", "k", 0), ("ask", "k", 0, "y", 1),
                 ("mix", "a"), ("mix", "a", ((i, "y"),), 1), ("mix", "a", None), ("solve",), ("either",), None, "tell", 7,
                 ["tell", "y"], (("tell", "y"),), (None,), (["ask"], "k", 0, "y"), (True, "y"), ("ask", "k", 0, ["y"]),
                 ("mix", "a", ((i, ["y"]),)), ("call", "a", ["one"], i, 1, "y"), ("ask", ["k"], 0, "y"),
                 ("solve", (["ask", "k", 0, "y"],)), ("solve", (None,)), ("solve", ((),)), ("solve", 7),
                 ("solve", (("ask", ["k"], 0, "y"),)), ("either", 1, 2)):
        yield (step, ("tell", "y"))


class Plans(Case):

    def test_is_plan(self):
        self.is_one(is_plan, [heun, every, (1, (("m", MIDDLE),)), (1, (("m", FORK),)), (7, (("m", EULER),))])
        self.is_one(is_plan, [plan(*steps) for steps in good_steps()])

    def test_what_is_none(self):
        for steps in bad_steps():
            self.same(is_plan(plan(*steps)), False, repr(steps))

    def test_bent_at_one_place(self):
        for thing in (heun, every, (1, (("m", FORK),))):
            self.is_one(is_plan, [thing])
            for other in bent(thing):
                if not only_a_name_is_bent(thing, other):
                    self.same(is_plan(other), False, repr(other))

    def test_titles(self):
        for title in ("a", "z9", "f", "f0a", "fa", "abcdefghijkl", "ask", "mix", "call", "h", "teller"):
            self.is_one(is_plan, [(1, ((title, EULER),))])
        for title in ("", "y", "k", "z", "f0", "f123", "A", "a_b", "a-b", "9", "a" * 13, "parts", "solve", "either", "else",
                      "tell", "over", "times", "back", None, 7, ("a",), True, "\u0661", "a\u00b2"):
            self.is_none(is_plan, [(1, ((title, EULER),))])
        # k and z are names within; so they are not let as titles, of whatever routine.
        self.is_none(is_plan, [(1, (("k", (("tell", "y"),)), ("m", EULER))), (1, (("m", EULER), ("z", (("tell", "y"),)))),
                               (1, (("m", EULER), ("m", EULER))), (1, ())])
        self.is_one(is_plan, [(1, (("m", (("tell", "y"),)), ("n", EULER)))])
        self.is_none(is_plan, [(0, (("m", (("tell", "y"),)),)), (True, (("m", EULER),)), (-1, (("m", EULER),)), None, (), (1,),
                               (1, (("m", EULER),), ()), (1, [("m", EULER)]), (1, (["m", EULER],)), (1, (("m", list(EULER)),)),
                               (1, (("m",),)), (1, (("m", EULER, EULER),)), ("1", (("m", EULER),)), (1, "m"), (1, ("m",))])

    def test_later_routines_are_not_called(self):
        call = (("call", "a", "n", i, 1, "y"), ("tell", "a"))
        self.is_none(is_plan, [(1, (("m", call), ("n", EULER))), (1, (("n", call),))])
        self.is_one(is_plan, [(1, (("n", EULER), ("m", call)))])
        # Each routine tells, also one that is not called.
        self.is_none(is_plan, [(1, (("n", EULER[:2]), ("m", EULER)))])

    def test_beyond_the_bounds(self):
        many = tuple(("r" + str(at), EULER) for at in range(40))
        asks = tuple(("ask", "k" + str(at), at, "y") for at in range(300))
        calls = tuple(("call", "a", "r0", i, 10 ** 9, "y") for _ in range(9))
        deep = (("tell", "y"),)
        for _ in range(30):
            deep = (("either", deep, (("tell", "y"),)),)
        self.is_one(is_plan, [(1, many), (300, (("m", asks + (("tell", "y"),)),)), (1, many + (("m", calls + (("tell", "a"),)),)),
                              (10 ** 40, (("m", EULER),)), (1, (("m", deep),)),
                              (1, (("m", FORK[:1] * 60 + FORK[1:]),)), (1, (("m", (("tell", "y"),) * 500),))])
        self.is_none(is_plan, [(299, (("m", asks + (("tell", "y"),)),)), (1, (("m", deep[0][1] + (("tell", "q"),)),))])

    def test_names_of_one_routine_only(self):
        second = (("mix", "z", ((i, "z"),)), ("tell", "y"))
        self.is_none(is_plan, [(1, (("m", EULER), ("n", second)))])
        # A solve may set what another routine sets.
        self.is_one(is_plan, [(1, (("m", MIDDLE), ("n", MIDDLE)))])


def only_a_name_is_bent(thing, other):
    """Whether other has but another NAME where thing has one: 'x' may be one, too."""
    if isinstance(thing, str) and isinstance(other, str):
        return other == "x" and thing != other
    if isinstance(thing, tuple) and isinstance(other, tuple) and len(thing) == len(other):
        unlike = [(a, b) for a, b in zip(thing, other) if a != b or type(a) is not type(b)]
        return len(unlike) == 1 and only_a_name_is_bent(*unlike[0])
    return False


class Ways(Case):

    def test_ways(self):
        self.gives([()], ways, plan=heun)
        self.gives([(False,), (True,)], ways, plan=(1, (("m", FORK),)))
        self.gives([(False,), (True,)], ways, plan=every)

    def test_two_eithers(self):
        either = FORK[0]
        self.gives(sorted(itertools.product((True, False), repeat=2)), ways,
                   plan=(1, (("m", (either, either, ("tell", "y"))),)))
        # An either within the first side alone.
        inner = ("either", (either, ("tell", "y")), (("tell", "y"),))
        self.gives([(False,), (True, False), (True, True)], ways, plan=(1, (("m", (inner,)),)))
        inner = ("either", (("tell", "y"),), (either, ("tell", "y")))
        self.gives([(False, False), (False, True), (True,)], ways, plan=(1, (("m", (inner,)),)))

    def test_runs_of_calls_and_backs(self):
        def main(*steps):
            return (1, (("m", FORK), ("n", steps + (("tell", "a"),))))
        for many in (1, 2, 3, 4):
            self.gives(sorted(itertools.product((True, False), repeat=many)), ways,
                       plan=main(("call", "a", "m", i, many, "y")))
        self.gives([(False,), (True,)], ways, plan=main(("back", "a", "m", i, "y")))
        self.gives(sorted(itertools.product((True, False), repeat=3)), ways,
                   plan=main(("back", "b", "m", i, "y"), ("call", "a", "m", i, 2, "b")))
        # Only the side that is run calls.
        steps = ("either", (("call", "a", "m", i, 2, "y"),), (("back", "a", "m", i, "y"),))
        expected = [(True,) + own for own in itertools.product((True, False), repeat=2)] + [(False, True), (False, False)]
        self.gives(sorted(expected), ways, plan=main(steps))

    def test_calls_of_calls(self):
        routines = (("m", FORK), ("n", (("call", "a", "m", i, 2, "y"), ("tell", "a"))),
                    ("o", (("call", "a", "n", i, 1, "y"), ("back", "b", "n", i, "a"), ("tell", "b"))))
        self.gives(sorted(itertools.product((True, False), repeat=4)), ways, plan=(1, routines))
        # Routines that are not called have no part in it.
        self.gives([()], ways, plan=(1, routines[:2] + (("p", EULER),)))
        many = (("q", FORK[:1] * 50 + FORK[1:]), ("p", EULER))
        self.gives([()], ways, plan=(1, many))

    def test_own_counting(self):
        for steps in good_steps():
            self.gives(sorted(counted(plan(*steps)[1], steps)), ways, plan=plan(*steps))


def counted(routines, steps):
    """The WAYS by own counting."""
    if not steps:
        return [()]
    step, rest = steps[0], counted(routines, steps[1:])
    titles = dict(routines)
    if step[0] == "either":
        first = [(True,) + way for way in counted(routines, step[1])] + [(False,) + way for way in counted(routines, step[2])]
    elif step[0] in ("call", "back"):
        run = counted(routines, titles[step[2]])
        first = [sum(own, ()) for own in itertools.product(run, repeat=step[4] if step[0] == "call" else 1)]
    else:
        first = [()]
    return [way + more for way in first for more in rest]


if __name__ == "__main__":
    unittest.main()
