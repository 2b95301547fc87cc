"""Point 10: what mayrest.flows separates; point 2 (b) and (d), and point 3, as far as they speak of it."""

import inspect
import itertools
import random
import unittest

from mayrest import flows
from mayrest.errors import Overlap
from mayrest.flows import separate, separate_holds
from mayrest.programs import Program
from tests.models import (CROWD, EMPTY, P, S, all_programs, begins, crowded, crowded_downwards, every_chain, longest_ring,
                          pairs_of, random_program, some_programs, under)
from tests.samples import any_values


def near_side(uses, starts):
    """The starts, and the modules to which the uses lead from them."""
    near = set(starts)
    while True:
        more = {used for user, used in uses if user in near} - near
        if not more:
            return near
        near |= more


def all_cuts(program, sources, targets):
    """All sets of the fewest uses that separate, each with its near side, by going through all sets of uses."""
    starts = [module for module in program.modules if under(sources, module)]
    ends = {module for module in program.modules if under(targets, module)}
    for many in range(len(program) + 1):
        found = []
        for cuts in itertools.combinations(program.uses, many):
            near = near_side([use for use in program.uses if use not in cuts], starts)
            if not near & ends:
                found.append((cuts, near))
        if found:
            return found


class Checks(unittest.TestCase):

    def check_chains(self, program, sources, targets, cuts, ways):
        """That the ways are as many chains as cuts, ascending, without a common use."""
        self.assertEqual(len(ways), len(cuts))
        self.assertEqual(list(ways), sorted(ways))
        uses = [use for way in ways for use in zip(way, way[1:])]
        self.assertEqual(len(set(uses)), len(uses))
        self.assertLessEqual(set(uses), set(program.uses))
        for way in ways:
            self.assertIsInstance(way, tuple)
            self.assertEqual(len(set(way)), len(way))
            self.assertIs(under(sources, way[0]) and under(targets, way[-1]), True)

    def check(self, program, sources, targets):
        """What separate returns, for a small program."""
        with self.subTest(program=program.uses, sources=sources, targets=targets):
            value = separate(program, sources, targets)
            self.assertIsInstance(value, tuple)
            cuts, ways = value
            self.assertIsInstance(cuts, tuple)
            self.assertIsInstance(ways, tuple)
            fewest = all_cuts(program, sources, targets)
            smallest = min(len(near) for _, near in fewest)
            self.assertEqual([cut for cut, near in fewest if len(near) == smallest], [cuts])
            self.check_chains(program, sources, targets, cuts, ways)
            self.assertEqual(separate(program, sources, targets), value)
            for cut, _ in fewest:
                self.assertIs(separate_holds(program, sources, targets, (cut, ways)), True)


class TestInterface(unittest.TestCase):

    def test_each_function_is_defined_in_this_file_with_its_arguments(self):
        for name, parameters in (("separate", ("program", "sources", "targets")),
                                 ("separate_holds", ("program", "sources", "targets", "value"))):
            function = getattr(flows, name)
            self.assertEqual(function.__module__, "mayrest.flows")
            self.assertEqual(tuple(inspect.signature(function).parameters), parameters)

    def test_the_examples_of_point_10(self):
        told = [separate(S, ("app.ui", "lib.net"), ("lib.log",))[0], separate(S, ("lib.log",), ("app",))]
        self.assertEqual(repr(told), "[(('app.db', 'lib.log'), ('lib.net', 'lib.log')), ((), ())]")
        value = ((('app.ui', 'app.core'), ('app.ui', 'app.db')), (('app.ui', 'app.core', 'app.db'), ('app.ui', 'app.db')))
        self.assertIs(separate_holds(S, ("app.ui",), ("app.db",), value), True)


class TestSeparate(Checks):

    def test_all_programs_of_three_modules(self):
        for program in all_programs(("a.a", "a.b", "b")):
            for sources, targets in ((("a",), ("b",)), (("b",), ("a",)), (("a.a",), ("a.b", "b")), (("b", "a.b"), ("a.a",)),
                                     (("a.a", "a", "a.a"), ("b", "b")), (("a.a",), ("b",))):
                self.check(program, sources, targets)

    def test_programs_of_four_to_six_modules(self):
        rng = random.Random(31)
        for size, many in ((4, 60), (5, 60), (6, 40)):
            for program in some_programs(31 + size, many, size, 10):
                modules = rng.sample(program.modules, size)
                cut = rng.randint(1, 2)
                self.check(program, tuple(modules[:cut]), tuple(modules[cut:cut + rng.randint(1, 2)]))

    def check_renamed(self, uses, cuts, ways):
        """What separate returns from s to t, whatever the names of the other modules are."""
        rng = random.Random(33)
        inner = sorted({module for use in uses for module in use} - {"s", "t"})
        for _ in range(40):
            names = {"s": "s", "t": "t", **dict(zip(inner, rng.sample("abcdefghijklm", len(inner))))}
            program = Program.of(*[(names[user], names[used]) for user, used in uses])
            self.check(program, ("s",), ("t",))
            value = separate(program, ("s",), ("t",))
            self.assertEqual(set(value[0]), {(names[user], names[used]) for user, used in cuts})
            self.assertEqual(value[1], tuple(sorted(tuple(names[module] for module in way) for way in ways)))

    def test_ways_that_have_to_be_taken_back(self):
        # The shortest way, over a and b, is no part of the two that there are.
        uses = ["sa", "ab", "bt", "sc", "cd", "db", "ae", "ef", "ft"]
        self.check_renamed([tuple(use) for use in uses], [("s", "a"), ("s", "c")],
                           [tuple("saeft"), tuple("scdbt")])

        # Here a use that was taken back has to be free for the flow again.
        named = Program.of(("i", "j"), ("i", "u"), ("j", "f"), ("n", "j"), ("n", "s"), ("s", "i"), ("t", "i"), ("t", "n"),
                           ("u", "b"), ("v", "n"))
        self.check(named, ("v", "t"), ("f", "b"))

    def test_uses_that_make_a_loop(self):
        uses = ["sc", "sr", "rb", "bt", "bc", "cb", "cq", "qt"]
        self.check_renamed([tuple(use) for use in uses], [("s", "c"), ("s", "r")], [tuple("scqt"), tuple("srbt")])
        named = Program.of(("v", "c"), ("v", "r"), ("r", "b"), ("b", "n"), ("b", "c"), ("c", "b"), ("c", "s"), ("s", "n"))
        self.check(named, ("v",), ("n",))

    def test_random_programs_of_ten_to_twenty_modules(self):
        rng = random.Random(34)
        for _ in range(1500):
            size = rng.randint(10, 20)
            modules = rng.sample(CROWD, size)
            program = Program(tuple(modules), tuple(rng.sample(pairs_of(modules), rng.randint(size, size * 2))))
            sources, targets = tuple(modules[:2]), tuple(modules[2:4])
            cuts, ways = separate(program, sources, targets)
            self.check_chains(program, sources, targets, cuts, ways)
            self.assertLessEqual(set(cuts), set(program.uses))
            near = near_side([use for use in program.uses if use not in cuts], sources)
            self.assertEqual(near & set(targets), set())
            self.assertIs(separate_holds(program, sources, targets, (cuts, ways)), True)

    def test_the_smallest_near_side(self):
        row = Program.of(("a", "b"), ("b", "c"), ("c", "d"))
        self.assertEqual(separate(row, ("a",), ("d",)), ((("a", "b"),), (("a", "b", "c", "d"),)))
        wide = Program.of(("a", "b"), ("a", "c"), ("b", "d"), ("c", "d"), ("d", "e"), ("e", "f"))
        self.assertEqual(separate(wide, ("a",), ("f",))[0], (("d", "e"),))
        beside = Program.of(("a", "x"), ("x", "y"), ("a", "b"), ("b", "t"))
        self.assertEqual(separate(beside, ("a",), ("t",))[0], (("a", "b"),))
        for value in ((("b", "c"),), (("c", "d"),), (("a", "b"),)):
            self.assertIs(separate_holds(row, ("a",), ("d",), (value, (("a", "b", "c", "d"),))), True)

    def test_no_way_at_all(self):
        for program, sources, targets in ((P, ("lib.log",), ("app",)), (P, (), ("app",)), (P, ("app",), ()), (P, (), ()),
                                          (EMPTY, ("a",), ("b",)), (P, ("x",), ("app",)), (P, ("app",), ("lib.x",))):
            self.assertEqual(separate(program, sources, targets), ((), ()))
            self.assertIs(separate_holds(program, sources, targets, ((), ())), True)
        self.assertEqual(separate(P, ("app.db",), ("app.core", "app.ui", "lib.net")), ((), ()))

    def test_sources_that_overlap_one_another(self):
        self.assertEqual(separate(P, ("app", "app.ui", "app"), ("lib.log", "lib")),
                         ((("app.db", "lib.log"),), (("app.db", "lib.log"),)))

    def test_uses_both_ways_between_sources_and_targets(self):
        program = Program(CROWD[:6], tuple(pairs_of(CROWD[:6])))
        cuts, ways = separate(program, CROWD[:2], CROWD[4:6])
        self.assertEqual(len(cuts), 8)
        self.check_chains(program, CROWD[:2], CROWD[4:6], cuts, ways)
        self.assertIs(separate_holds(program, CROWD[:2], CROWD[4:6], (cuts, ways)), True)

    def test_programs_at_the_limits(self):
        for program in (crowded(1), crowded(2), crowded_downwards(), longest_ring()):
            for sources, targets in ((("a",), ("c",)), (("c",), ("a",)), (("a.a",), ("c.h",)), (("a", "b.x.a"), ("c.a",)),
                                     (CROWD[:8], CROWD[16:22])):
                cuts, ways = separate(program, sources, targets)
                self.assertEqual(list(cuts), sorted(set(cuts)))
                self.assertLessEqual(set(cuts), set(program.uses))
                self.check_chains(program, sources, targets, cuts, ways)
                starts = [module for module in CROWD if under(sources, module)]
                near = near_side([use for use in program.uses if use not in cuts], starts)
                self.assertEqual([module for module in near if under(targets, module)], [])
                # Each module of the smallest near side but the starts makes the cuts more if it stands outside.
                for module in near - set(starts):
                    wider = separate(program, sources, (*targets, module))
                    self.assertGreater(len(wider[0]), len(cuts))
                self.assertIs(separate_holds(program, sources, targets, (cuts, ways)), True)

    def test_all_uses_from_half_of_the_modules_to_the_other_half(self):
        program = Program(CROWD, tuple(itertools.product(CROWD[:12], CROWD[12:])))
        sources, targets = ("a", *CROWD[8:12]), ("c", *CROWD[12:16])
        cuts, ways = separate(program, sources, targets)
        self.assertEqual((cuts, ways), (program.uses, program.uses))
        self.assertIs(separate_holds(program, sources, targets, (cuts, ways)), True)


class TestOverlap(unittest.TestCase):

    def check(self, program, sources, targets, path):
        for call in (lambda: separate(program, sources, targets),
                     lambda: separate_holds(program, sources, targets, ((), ())),
                     lambda: separate_holds(program, sources, targets, None)):
            with self.subTest(sources=sources, targets=targets):
                with self.assertRaises(Overlap) as caught:
                    call()
                self.assertEqual(caught.exception.path, path)

    def test_the_first_of_the_sources_that_overlaps_a_target(self):
        for program in (P, EMPTY, crowded(1)):
            self.check(program, ("app",), ("app",), "app")
            self.check(program, ("app.db",), ("app",), "app.db")
            self.check(program, ("app",), ("lib", "app.db"), "app")
            self.check(program, ("z", "lib", "app.x", "app"), ("app", "lib"), "lib")
            self.check(program, ("z", "app.x", "lib"), ("y", "lib", "app"), "app.x")
            self.check(program, ("a.b.c.d.e.f",), ("a.b.c.d.e.f",), "a.b.c.d.e.f")

    def test_letters_in_common_are_no_overlap(self):
        self.assertEqual(separate(P, ("ap",), ("app", "apple")), ((), ()))
        self.assertEqual(separate(P, ("app", "app.ui"), ("lib",))[0], (("app.db", "lib.log"),))


class TestSeparateHolds(unittest.TestCase):

    def check(self, value, expected, program=S, sources=("app.ui",), targets=("app.db",)):
        with self.subTest(value=repr(value)[:90]):
            self.assertIs(separate_holds(program, sources, targets, value), expected)
            self.assertIs(separate_holds(program, sources, targets, value), expected)

    def test_each_condition_alone(self):
        cuts = (("app.ui", "app.core"), ("app.ui", "app.db"))
        others = (("app.core", "app.db"), ("app.ui", "app.db"))
        ways = (("app.ui", "app.core", "app.db"), ("app.ui", "app.db"))
        self.check((cuts, ways), True)
        self.check((others, ways), True)
        for value in (
                (list(cuts), ways), (cuts, list(ways)), [cuts, ways], (cuts, ways, ()), (cuts,), (ways, cuts), (cuts, None),
                (None, ways), (), None, ((), ()), (cuts, ()), ((), ways), (cuts[::-1], ways), (cuts, ways[::-1]),
                (cuts[:1], ways), (cuts, ways[:1]), (cuts[:1], ways[:1]), (cuts[1:], ways[1:]),
                ((cuts[0], cuts[0]), ways), ((cuts[0], cuts[1], cuts[1]), ways), (cuts, (ways[0], ways[0])),
                ((("app.core", "app.db"), ("app.ui", "app.core")), ways),
                ((("app.ui", "app.core"), ("lib.net", "app.core")), ways),
                ((cuts[0], list(cuts[1])), ways), ((("app.db", "app.ui"), ("app.ui", "app.core")), ways),
                (cuts, (list(ways[0]), ways[1])), (cuts, (ways[0], ("app.ui", "app.db", "lib.log"))),
                (cuts, (("app.core", "app.db"), ways[1])), (cuts, (ways[0], ("app.ui", "app.core", "app.db"))),
                (cuts, (("app.ui", "app.core", "app.db"), ("lib.net", "app.core", "app.db"))),
                (tuple("ab"), ways), (cuts, (("app.ui",), ways[1])), (cuts, (ways[1],) * 2)):
            self.check(value, False)

    def test_more_cuts_than_are_needed(self):
        program = Program.of(("a", "b"), ("b", "c"))
        way = (("a", "b", "c"),)
        for cuts, expected in (((("a", "b"),), True), ((("b", "c"),), True), ((("a", "b"), ("b", "c")), False), ((), False)):
            self.check((cuts, way), expected, program, ("a",), ("c",))

    def test_chains_that_share_a_use(self):
        program = Program.of(("a", "m"), ("b", "m"), ("m", "t.x"), ("m", "t.y"), ("a", "n"), ("n", "m"))
        ways = (("a", "m", "t.x"), ("b", "m", "t.y"))
        cuts = (("m", "t.x"), ("m", "t.y"))
        self.check((cuts, ways), True, program, ("a", "b"), ("t",))
        self.check((cuts, (("a", "m", "t.x"), ("b", "m", "t.x"))), False, program, ("a", "b"), ("t",))
        self.check((cuts, (("a", "m", "t.x"), ("a", "m", "t.y"))), False, program, ("a", "b"), ("t",))
        self.check((cuts, (("a", "m", "t.x"), ("a", "n", "m", "t.y"))), True, program, ("a", "b"), ("t",))

    def test_cuts_that_do_not_separate(self):
        program = Program.of(("a", "b"), ("b", "c"), ("b", "d"), ("d", "c"))
        self.check(((("a", "b"),), (("a", "b", "c"),)), True, program, ("a",), ("c",))
        self.check(((("a", "b"),), (("a", "b", "d", "c"),)), True, program, ("a",), ("c",))
        self.check(((("b", "c"),), (("a", "b", "c"),)), False, program, ("a",), ("c",))
        self.check(((("b", "d"),), (("a", "b", "c"),)), False, program, ("a",), ("c",))

    def test_any_values(self):
        for value in any_values():
            for program in (S, EMPTY, crowded(1)):
                self.check(value, False, program)
            for pair in ((value, value), (value, ()), ((), value), (value, (("app", "db"),)), ((("app", "db"),), value),
                         ((value,), (value,))):
                expected = pair == ((("app", "db"),), (("app", "db"),))
                self.check(pair, expected, Program.of(("app", "db")), ("app",), ("db",))

    def test_whatever_it_accepts_is_what_it_says(self):
        program = Program.of(("a", "b"), ("b", "c"), ("a", "c"))
        parts = [(), *[(use,) for use in program.uses], *itertools.permutations(program.uses, 2), program.uses]
        chains = [way for way in every_chain(program) if begins("a", way[0]) and begins("c", way[-1])]
        ways = [(), *[(way,) for way in chains], *itertools.permutations(chains, 2), (chains[0], chains[0])]
        accepted = [pair for pair in itertools.product(parts, ways) if separate_holds(program, ("a",), ("c",), pair)]
        right = (("a", "b", "c"), ("a", "c"))
        self.assertEqual(accepted, [((("a", "b"), ("a", "c")), right), ((("a", "c"), ("b", "c")), right)])

    def test_programs_and_values_stay_as_they_are(self):
        rng = random.Random(37)
        for _ in range(10):
            program = random_program(rng, CROWD[4:12], 30)
            told = (program.modules, program.uses)
            value = separate(program, ("a",), ("b.x",))
            kept = repr(value)
            self.assertEqual(value, separate(Program(program.modules[::-1], program.uses[::-1]), ("a",), ("b.x",)))
            self.assertIs(separate_holds(program, ("a",), ("b.x",), value), True)
            self.assertEqual(((program.modules, program.uses), repr(value)), (told, kept))


if __name__ == "__main__":
    unittest.main()
