"""Point 9: what mayrest.impact tells of changes, and point 3 as far as it speaks of it."""

import inspect
import itertools
import random
import unittest

from mayrest import impact
from mayrest.errors import Ring
from mayrest.impact import reduced, spare_uses, touched
from mayrest.programs import Program
from tests.models import (CROWD, EMPTY, P, R, S, all_programs, crowded, crowded_downwards, distances, every_chain,
                          every_ring, longest_ring, some_programs, under)

PATHS = [(), ("a",), ("b",), ("a.a",), ("a.b", "b"), ("b", "a"), ("a", "a.a"), ("x", "a.a.a"), ("a.b", "a.b")]
SMALL = list(all_programs(("a.a", "a.b", "b")))


def joined(program):
    """The pairs of modules that chains join."""
    return {(way[0], way[-1]) for way in every_chain(program)}


class TestInterface(unittest.TestCase):

    def test_each_function_is_defined_in_this_file_with_its_arguments(self):
        for name, parameters in (("touched", ("program", "paths")), ("spare_uses", ("program",)),
                                 ("reduced", ("program",))):
            function = getattr(impact, name)
            self.assertEqual(function.__module__, "mayrest.impact")
            self.assertEqual(tuple(inspect.signature(function).parameters), parameters)

    def test_the_example_of_point_9(self):
        told = [touched(P, ("app.db",)), spare_uses(S), reduced(S) == P]
        self.assertEqual(repr(told), "[('app.core', 'app.db', 'app.ui', 'lib.net'), "
                         "(('app.ui', 'app.db'), ('lib.net', 'lib.log')), True]")


class TestTouched(unittest.TestCase):

    def check(self, program, paths):
        behind = {way[0] for way in every_chain(program) if under(paths, way[-1])}
        inside = {module for module in program.modules if under(paths, module)}
        with self.subTest(program=program.uses, paths=paths):
            self.assertEqual(touched(program, paths), tuple(sorted(behind | inside)))
            self.assertEqual(touched(program, paths), tuple(sorted(behind | inside)))

    def test_small_programs(self):
        for program in SMALL:
            for paths in PATHS:
                self.check(program, paths)
        rng = random.Random(13)
        for program in some_programs(13, 60, 5, 9):
            self.check(program, tuple(rng.sample([*program.parts, "x"], rng.randint(0, 4))))

    def test_modules_that_the_paths_cover_are_touched_without_chains(self):
        self.assertEqual(touched(Program(("a.x", "b", "a.b"), ()), ("a",)), ("a.b", "a.x"))
        self.assertEqual(touched(P, ("lib.net", "app.ui")), ("app.ui", "lib.net"))
        self.assertEqual(touched(P, ("lib.log",)), P.modules[:4] + ("lib.net",))

    def test_nothing_is_touched(self):
        for paths in ((), ("x",), ("app.ui.x",), ("ap",)):
            self.assertEqual(touched(P, paths), ())
        self.assertEqual(touched(EMPTY, ("a",)), ())

    def test_programs_at_the_limits(self):
        for program in (crowded(1), crowded_downwards(), longest_ring()):
            steps = distances(program)
            for paths in (("b",), ("a.c",), ("c.h", "b.x.a"), CROWD[:8]):
                expected = {start for start, end in steps if under(paths, end)}
                self.assertEqual(touched(program, paths), tuple(sorted(expected)))


class TestSpareUses(unittest.TestCase):

    def test_small_programs_with_and_without_rings(self):
        for program in [*SMALL, EMPTY, *some_programs(14, 120, 5, 12)]:
            longer = {(way[0], way[-1]) for way in every_chain(program) if len(way) > 2}
            with self.subTest(program=program.uses):
                self.assertEqual(spare_uses(program), tuple(use for use in program.uses if use in longer))

    def test_a_ring_alone_has_no_spare_use(self):
        self.assertEqual(spare_uses(Program.of(("a", "b"), ("b", "a"))), ())
        self.assertEqual(spare_uses(longest_ring()), ())
        self.assertEqual(spare_uses(R), ())

    def test_rings_beside_a_use_do_not_make_it_spare(self):
        self.assertEqual(spare_uses(Program.of(("a", "b"), ("a", "c"), ("c", "a"), ("b", "d"), ("d", "b"))), ())
        both_ways = Program.of(("a", "b"), ("b", "a"), ("b", "c"), ("a", "c"), ("c", "a"))
        self.assertEqual(spare_uses(both_ways), (("a", "c"), ("b", "a"), ("b", "c")))

    def test_programs_at_the_limits(self):
        for program in (crowded(1), crowded_downwards()):
            expected = [use for use in program.uses
                        if use in distances(program - Program.of(use))]
            self.assertEqual(spare_uses(program), tuple(expected))


class TestReduced(unittest.TestCase):

    def test_small_programs(self):
        for program in [*SMALL, EMPTY, *some_programs(15, 120, 5, 8)]:
            rings = every_ring(program)
            with self.subTest(program=program.uses):
                if rings:
                    first = min(way[0] for way in rings)
                    with self.assertRaises(Ring) as caught:
                        reduced(program)
                    self.assertEqual(caught.exception.ring, [way for way in rings if way[0] == first][0])
                else:
                    result = reduced(program)
                    self.assertIsInstance(result, Program)
                    self.assertEqual(result.modules, program.modules)
                    self.assertEqual(joined(result), joined(program))
                    self.assertIs(program.includes(result), True)

    def test_no_program_with_fewer_uses_joins_the_same_modules(self):
        for program in SMALL:
            if not every_ring(program):
                fitting = [other for other in SMALL if joined(other) == joined(program)]
                fewest = min(len(other) for other in fitting)
                self.assertEqual([other for other in fitting if len(other) == fewest], [reduced(program)])

    def test_the_first_ring_of_the_first_module_on_one(self):
        program = Program.of(("a", "z"), ("z", "y"), ("y", "x"), ("x", "z"), ("c", "d"), ("d", "e"), ("e", "c"))
        with self.assertRaises(Ring) as caught:
            reduced(program)
        self.assertEqual(caught.exception.ring, ("c", "d", "e"))
        with self.assertRaises(Ring) as caught:
            reduced(program | Program.of(("d", "c")))
        self.assertEqual(caught.exception.ring, ("c", "d"))

    def test_programs_at_the_limits(self):
        result = reduced(crowded_downwards())
        steps, kept = distances(crowded_downwards()), distances(result)
        self.assertEqual(sorted(steps), sorted(kept))
        for use in result.uses:
            self.assertNotIn(use, distances(result - Program.of(use)))
        with self.assertRaises(Ring) as caught:
            reduced(longest_ring())
        self.assertEqual(caught.exception.ring, CROWD)
        with self.assertRaises(Ring):
            reduced(crowded(1))

    def test_programs_stay_as_they_are(self):
        for program in (P, S, crowded_downwards()):
            told = (program.modules, program.uses)
            for one, other in itertools.permutations([reduced(program), reduced(program)]):
                self.assertEqual(one, other)
            self.assertEqual(spare_uses(program), spare_uses(program))
            self.assertEqual((program.modules, program.uses), told)


if __name__ == "__main__":
    unittest.main()
