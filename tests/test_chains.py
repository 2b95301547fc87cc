"""Points 7 and 8: the chains, rings and groups of mayrest.chains, and point 3 as far as it speaks of them."""

import inspect
import itertools
import random
import unittest

from mayrest import chains
from mayrest.chains import chain, chain_holds, groups, reached, ring, ring_holds
from mayrest.programs import Program
from tests.models import (CROWD, EMPTY, P, POOL, R, all_programs, by_size, crowded, crowded_downwards, distances,
                          every_chain, every_ring, first_way, longest_ring, pairs_of, some_programs, under)
from tests.samples import any_values

SMALL = list(all_programs(("a.a", "a.b", "b")))
ENDS = [(), ("a",), ("b",), ("a.a",), ("a.b", "b"), ("b", "a.b", "a"), ("a", "a.a"), ("a.b", "a.b"), ("x", "a.a.a"),
        ("a.a", "x", "b.b", "a.a.x", "ab", "b", "c", "d")]

PARAMETERS = {
    "chain": ("program", "sources", "targets"),
    "chain_holds": ("program", "sources", "targets", "value"),
    "reached": ("program", "paths", "backward"),
    "groups": ("program",),
    "ring": ("program", "module"),
    "ring_holds": ("program", "value"),
}


def retold_groups(program):
    """The groups in their order, told by chains."""
    joined = {(way[0], way[-1]) for way in every_chain(program)}
    left = sorted({tuple(sorted([other for other in program.modules
                                 if other == module or {(module, other), (other, module)} <= joined]))
                   for module in program.modules})
    placed = []
    while left:
        for group in left:
            waiting = {module for other in left if other != group for module in other}
            if not any(user in waiting and used in group for user, used in program.uses):
                placed.append(group)
                left.remove(group)
                break
    return tuple(placed)


class TestInterface(unittest.TestCase):

    def test_each_function_is_defined_in_this_file_with_its_arguments(self):
        for name, parameters in PARAMETERS.items():
            function = getattr(chains, name)
            self.assertEqual(function.__module__, "mayrest.chains")
            self.assertEqual(tuple(inspect.signature(function).parameters), parameters)

    def test_backward_is_passed_by_name(self):
        backward = inspect.signature(reached).parameters["backward"]
        self.assertEqual((backward.kind, backward.default), (inspect.Parameter.KEYWORD_ONLY, False))

    def test_the_examples_of_points_7_and_8(self):
        told = [chain(P, ("lib",), ("lib.log",)), chain(P, ("lib.log",), ("app",)),
                chain_holds(P, ("app",), ("app",), ("app.ui", "app.core", "app.db"))]
        self.assertEqual(repr(told), "[('lib.net', 'app.core', 'app.db', 'lib.log'), None, True]")
        told = [reached(P, ("app.core", "app.db")), reached(P, ("app.core",), backward=True)]
        self.assertEqual(repr(told), "[('app.db', 'lib.log'), ('app.ui', 'lib.net')]")
        told = [groups(R), ring(R, "app.db"), ring(R, "lib.log"), ring_holds(R, ("app.ui", "app.core", "app.db"))]
        self.assertEqual(repr(told), "[(('lib.net',), ('app.core', 'app.db', 'app.ui'), ('lib.log',)), "
                         "('app.db', 'app.ui', 'app.core'), None, True]")


class TestChain(unittest.TestCase):

    def check(self, program, sources, targets):
        """What chain, chain_holds and reached say, against all chains of the program."""
        ways = every_chain(program)
        fitting = [way for way in ways if under(sources, way[0]) and under(targets, way[-1])]
        with self.subTest(program=program.uses, sources=sources, targets=targets):
            self.assertEqual(chain(program, sources, targets), fitting[0] if fitting else None)
            for way in ways:
                self.assertIs(chain_holds(program, sources, targets, way), way in fitting)

    def test_all_programs_of_three_modules(self):
        for program in SMALL:
            for sources, targets in itertools.product(ENDS, repeat=2):
                self.check(program, sources, targets)

    def test_programs_of_five_modules(self):
        rng = random.Random(7)
        for program in some_programs(7, 60, 5, 9):
            for _ in range(6):
                sources, targets = [tuple(rng.sample([*program.parts, "x"], rng.randint(0, 4))) for _ in range(2)]
                self.check(program, sources, targets)

    def test_fewest_modules_come_first(self):
        program = Program.of(("a", "b"), ("b", "c"), ("c", "z"), ("a", "y"), ("y", "z"))
        self.assertEqual(chain(program, ("a",), ("z",)), ("a", "y", "z"))

    def test_the_first_as_a_tuple_of_several(self):
        program = Program.of(("s", "n"), ("s", "m"), ("m", "y"), ("n", "x"), ("y", "t"), ("x", "t"), ("r", "n"))
        self.assertEqual(chain(program, ("s",), ("t",)), ("s", "m", "y", "t"))
        self.assertEqual(chain(program, ("s", "r"), ("t",)), ("r", "n", "x", "t"))
        self.assertEqual(chain(program, ("s",), ("x", "y")), ("s", "m", "y"))

    def test_the_order_is_that_of_strings(self):
        program = Program.of(("s", "ab"), ("s", "a.b"), ("ab", "t"), ("a.b", "t"))
        self.assertEqual(chain(program, ("s",), ("t",)), ("s", "a.b", "t"))

    def test_sources_that_are_targets_too(self):
        program = Program.of(("a", "m"), ("m", "a"), ("b", "m"))
        self.assertEqual(chain(program, ("a", "b"), ("a",)), ("b", "m", "a"))
        self.assertEqual(chain(program, ("a",), ("a",)), None)
        self.assertEqual(chain(program, ("a", "b"), ("a", "b")), ("b", "m", "a"))
        self.assertEqual(chain(P, ("app",), ("app",)), ("app.core", "app.db"))

    def test_none(self):
        self.assertEqual([chain(EMPTY, ("a",), ("b",)), chain(P, (), ("app",)), chain(P, ("app",), ()),
                          chain(P, ("tools",), ("app",)), chain(P, ("app.ui.x",), ("app",)), chain(P, ("ap",), ("app",)),
                          chain(Program(("a", "b"), ()), ("a",), ("b",))], [None] * 7)

    def test_programs_at_the_limits(self):
        for program in (crowded(1), crowded(2), crowded_downwards(), longest_ring()):
            steps = distances(program)
            for start, end in itertools.permutations(CROWD[::5], 2):
                expected = first_way(program, steps, start, end) if (start, end) in steps else None
                self.assertEqual(chain(program, (start,), (end,)), expected)
            ways = by_size([first_way(program, steps, start, end) for start in CROWD[:8] for end in CROWD[16:]
                            if (start, end) in steps])
            self.assertEqual(chain(program, ("a",), ("c",)), ways[0])
            self.assertIs(chain_holds(program, ("a",), ("c",), ways[0]), True)
        self.assertEqual(len(chain(longest_ring(), ("a.a",), ("c.h",))), 24)


class TestChainHolds(unittest.TestCase):

    def test_not_only_the_first_one(self):
        program = Program.of(("a", "b"), ("b", "c"), ("c", "d"), ("a", "d"))
        self.assertIs(chain_holds(program, ("a",), ("d",), ("a", "d")), True)
        self.assertIs(chain_holds(program, ("a",), ("d",), ("a", "b", "c", "d")), True)

    def test_each_condition_alone(self):
        right = ("app.ui", "app.core", "app.db")
        self.assertIs(chain_holds(P, ("app",), ("app.db",), right), True)
        for sources, targets, value in (
                (("lib",), ("app.db",), right), (("app",), ("lib",), right), ((), ("app",), right),
                (("app",), (), right), (("app.db",), ("app.ui",), right),
                (("app",), ("app",), ("app.ui",)), (("app",), ("app",), ()),
                (("app",), ("app",), list(right)), (("app",), ("app",), right[::-1]),
                (("app",), ("app",), ("app.ui", "app.db")), (("app",), ("app",), ("app", "app.db")),
                (("app",), ("app",), ("app.ui", "app.core", ("app.db",))), (("app",), ("app",), ("app.ui", ["app.core"])),
                (("app",), ("app",), (["app.ui"], "app.core")), (("app",), ("app",), ("app.ui", {}, "app.db")),
                (("app",), ("app",), (("app.ui", "app.core"), ("app.core", "app.db"))),
                (("app",), ("app",), "app.ui app.core app.db")):
            with self.subTest(sources=sources, targets=targets, value=value):
                self.assertIs(chain_holds(P, sources, targets, value), False)

    def test_modules_twice(self):
        for value in (("app.db", "app.ui", "app.core", "app.db"), ("app.ui", "app.core", "app.db", "app.ui"),
                      ("app.core", "app.db", "app.ui", "app.core", "app.db"), ("app.core", "app.core")):
            self.assertIs(chain_holds(R, ("app",), ("app",), value), False)

    def test_any_values(self):
        for program in (EMPTY, P, crowded(1)):
            for value in any_values():
                self.assertIs(chain_holds(program, ("app", "a"), ("app", "a"), value), False)
        program = Program.of(("app", "db"))
        for value in any_values():
            self.assertIs(chain_holds(program, ("app",), ("db",), value), value == ("app", "db"))

    def test_all_short_tuples(self):
        for program in SMALL[::7]:
            ways = every_chain(program)
            for many in range(5):
                for value in itertools.product(("a.a", "a.b", "b"), repeat=many):
                    self.assertIs(chain_holds(program, ("a", "b"), ("b", "a"), value), value in ways)


class TestReached(unittest.TestCase):

    def check(self, program, paths):
        ways = every_chain(program)
        ahead = {way[-1] for way in ways if under(paths, way[0])}
        behind = {way[0] for way in ways if under(paths, way[-1])}
        with self.subTest(program=program.uses, paths=paths):
            self.assertEqual(reached(program, paths), tuple(sorted(ahead)))
            self.assertEqual(reached(program, paths, backward=False), tuple(sorted(ahead)))
            self.assertEqual(reached(program, paths, backward=True), tuple(sorted(behind)))

    def test_all_programs_of_three_modules(self):
        for program in SMALL:
            for paths in ENDS:
                self.check(program, paths)

    def test_programs_of_five_modules(self):
        rng = random.Random(8)
        for program in some_programs(8, 60, 5, 9):
            for _ in range(5):
                self.check(program, tuple(rng.sample([*program.parts, "x"], rng.randint(0, 4))))

    def test_a_module_on_a_ring_does_not_reach_itself(self):
        program = Program.of(("a", "b"), ("b", "a"))
        self.assertEqual([reached(program, ("a",)), reached(program, ("a",), backward=True)], [("b",), ("b",)])
        self.assertEqual([reached(program, ("a", "b")), reached(program, ("b", "a"), backward=True)], [("a", "b")] * 2)
        self.assertEqual(reached(R, ("app.core",)), ("app.db", "app.ui", "lib.log"))

    def test_none(self):
        for paths in ((), ("x",), ("app.ui.x",), ("ap",)):
            self.assertEqual([reached(P, paths), reached(P, paths, backward=True)], [(), ()])
        self.assertEqual(reached(EMPTY, ("app",)), ())

    def test_programs_at_the_limits(self):
        for program in (crowded(1), crowded_downwards(), longest_ring()):
            steps = distances(program)
            for paths in (("a",), ("b.x.c", "c"), ("c.h",), ("a.a",), ()):
                starts = [module for module in CROWD if under(paths, module)]
                ahead = {end for start, end in steps if start in starts and start != end}
                behind = {start for start, end in steps if end in starts and start != end}
                self.assertEqual(reached(program, paths), tuple(sorted(ahead)))
                self.assertEqual(reached(program, paths, backward=True), tuple(sorted(behind)))


class TestGroups(unittest.TestCase):

    def test_small_programs(self):
        for program in [*SMALL, EMPTY, *some_programs(9, 150, 5, 8), *some_programs(10, 100, 6, 8)]:
            with self.subTest(program=program.uses):
                self.assertEqual(groups(program), retold_groups(program))

    def test_the_order_of_groups(self):
        self.assertEqual(groups(EMPTY), ())
        self.assertEqual(groups(Program(("c", "a", "b"), ())), (("a",), ("b",), ("c",)))
        self.assertEqual(groups(Program.of(("z", "a"), ("y", "b"))), (("y",), ("b",), ("z",), ("a",)))
        self.assertEqual(groups(Program.of(("c", "b"), ("d", "a"), ("a", "b"))), (("c",), ("d",), ("a",), ("b",)))
        self.assertEqual(groups(Program.of(("a", "z"), ("z", "a"), ("b", "c"), ("c", "z"))),
                         (("b",), ("c",), ("a", "z")))
        self.assertEqual(groups(P), (("app.ui",), ("lib.net",), ("app.core",), ("app.db",), ("lib.log",)))

    def test_two_rings_with_a_module_in_common(self):
        program = Program.of(("a", "b"), ("b", "a"), ("b", "c"), ("c", "b"), ("d", "c"), ("a", "e"))
        self.assertEqual(groups(program), (("d",), ("a", "b", "c"), ("e",)))

    def test_programs_at_the_limits(self):
        self.assertEqual(groups(longest_ring()), (tuple(sorted(CROWD)),))
        self.assertEqual(groups(crowded_downwards()), tuple((module,) for module in CROWD))
        upwards = Program(CROWD, tuple((used, user) for user, used in pairs_of(CROWD) if user < used)[:200])
        for program in (crowded(1), upwards):
            steps = distances(program)
            found = groups(program)
            place = {module: at for at, group in enumerate(found) for module in group}
            self.assertEqual(sorted(place), sorted(CROWD))
            for one, other in itertools.permutations(CROWD, 2):
                self.assertIs(place[one] == place[other], (one, other) in steps and (other, one) in steps)
            self.assertEqual([use for use in program.uses if place[use[0]] > place[use[1]]], [])
            self.assertEqual([list(group) for group in found], [sorted(group) for group in found])


class TestRing(unittest.TestCase):

    def test_small_programs(self):
        for program in [*SMALL, *some_programs(11, 150, 5, 9)]:
            rings = every_ring(program)
            for module in program.modules:
                with self.subTest(program=program.uses, module=module):
                    fitting = [way for way in rings if way[0] == module]
                    self.assertEqual(ring(program, module), fitting[0] if fitting else None)

    def test_the_first_ring_of_several(self):
        program = Program.of(("m", "a"), ("a", "z"), ("z", "m"), ("m", "b"), ("b", "c"), ("c", "m"), ("m", "q"),
                             ("q", "r"), ("r", "s"), ("s", "m"))
        self.assertEqual(ring(program, "m"), ("m", "a", "z"))
        self.assertEqual(ring(program | Program.of(("r", "m")), "m"), ("m", "a", "z"))
        self.assertEqual(ring(program | Program.of(("q", "m")), "m"), ("m", "q"))
        self.assertEqual(ring(program, "c"), ("c", "m", "b"))

    def test_no_ring(self):
        for module in P.modules:
            self.assertIsNone(ring(P, module))
        self.assertEqual([ring(R, "lib.net"), ring(R, "lib.log"), ring(Program(("a",), ()), "a")], [None] * 3)

    def test_programs_at_the_limits(self):
        self.assertEqual(ring(longest_ring(), "a.c"), CROWD[2:] + CROWD[:2])
        self.assertEqual([ring(crowded_downwards(), module) for module in CROWD], [None] * 24)
        program = crowded(1)
        steps = distances(program)
        for module in CROWD:
            rings = by_size([first_way(program, steps, module, user) for user, used in program.uses
                             if used == module and (module, user) in steps])
            self.assertEqual(ring(program, module), rings[0] if rings else None)


class TestRingHolds(unittest.TestCase):

    def test_all_short_tuples(self):
        for program in SMALL:
            rings = every_ring(program)
            for many in range(5):
                for value in itertools.product(("a.a", "a.b", "b"), repeat=many):
                    self.assertIs(ring_holds(program, value), value in rings)

    def test_it_may_begin_at_each_of_its_modules(self):
        for value in (("app.ui", "app.core", "app.db"), ("app.core", "app.db", "app.ui"), ("app.db", "app.ui", "app.core")):
            self.assertIs(ring_holds(R, value), True)
        self.assertIs(ring_holds(longest_ring(), CROWD), True)
        self.assertIs(ring_holds(longest_ring(), CROWD[5:] + CROWD[:5]), True)

    def test_what_is_no_ring(self):
        for value in (("app.ui", "app.core"), ("app.db", "app.core", "app.ui"), ("app.ui",), (),
                      ["app.ui", "app.core", "app.db"], ("app.ui", "app.core", "app.db", "app.ui"),
                      ("app.ui", "app.core", "app.db", "lib.log"), ("app.ui", "app.core", "app.db") * 2,
                      ("app", "app.core", "app.db"), CROWD[:23], CROWD[::-1]):
            self.assertIs(ring_holds(R, value), False)
            self.assertIs(ring_holds(longest_ring(), value), False)

    def test_any_values(self):
        for program in (EMPTY, R, crowded(1)):
            for value in any_values():
                self.assertIs(ring_holds(program, value), False)


class TestConventions(unittest.TestCase):

    def test_equal_calls_return_equal_results_and_change_nothing(self):
        for program in some_programs(12, 30, 6, 14):
            told = (program.modules, program.uses, program.parts)
            twin = Program(program.modules[::-1], program.uses[::-1])
            ends = (program.modules[0], "c"), (program.modules[-1], "a", "d")
            kept = tuple(ends)
            first = [chain(program, *ends), reached(program, ends[0]), groups(program), ring(program, POOL[0])
                     if POOL[0] in program.modules else None]
            for other in (program, twin):
                self.assertEqual(first, [chain(other, *ends), reached(other, ends[0]), groups(other),
                                         ring(other, POOL[0]) if POOL[0] in other.modules else None])
            self.assertEqual((program.modules, program.uses, program.parts), told)
            self.assertEqual(ends, kept)


if __name__ == "__main__":
    unittest.main()
