"""Points 19 and 20: levels and orders, by mayrest.levels; points 2 (b), (f) and 3, as far as they speak of it."""

import copy
import inspect
import itertools
import random
import unittest

from mayrest import levels as levels_file
from mayrest.errors import Circular, Overlap
from mayrest.levels import best_order, levels, order_table, table_holds, tower
from mayrest.programs import Program
from tests.models import (CROWD, EMPTY, P, R, begins, by_size, crowded, crowded_downwards, longest_ring, some_programs)
from tests.rulings import every_circle, first_over
from tests.samples import any_values, replaced

FUNCTIONS = (levels, tower, best_order, order_table)

# Paths over the modules of models.POOL; some of them cover nothing there.
PATHS = [("a",), ("x",), ("a.a", "b"), ("a", "c"), ("c", "a"), ("a", "b", "c", "d"), ("d", "c.b", "c.a", "b", "ab", "a.b", "a.a"),
         ("d", "x", "c.a.b", "c.b", "a", "y.y", "b", "c.a.a"), ("c.a", "c.b", "a", "b"), ("y", "ab", "x", "b.b")]


def rests(program, paths):
    """For each two paths of which one rests on the other, how many uses lead from this one to that one."""
    found = {}
    for user, used in program.uses:
        pair = (first_over(paths, user), first_over(paths, used))
        if None not in pair and pair[0] != pair[1]:
            found[pair] = found.get(pair, 0) + 1
    return found


def sequences(program, paths):
    """All sequences of paths, each resting on the next one."""
    on = rests(program, paths)
    return [row for many in range(1, len(paths) + 1) for row in itertools.permutations(paths, many)
            if all(step in on for step in zip(row, row[1:]))]


def against(program, order):
    """The uses against the order, ascending."""
    places = {path: at for at, path in enumerate(order)}
    found = []
    for use in program.uses:
        upper, lower = [first_over(order, module) for module in use]
        if None not in (upper, lower) and places[upper] > places[lower]:
            found.append(use)
    return tuple(found)


def expected_levels(program, paths):
    """The rows of paths, by the longest sequences that end with each of them."""
    deep = {}
    for row in sequences(program, paths):
        deep[row[-1]] = max(deep.get(row[-1], 0), len(row) - 1)
    return tuple(tuple(sorted(path for path in paths if deep[path] == at)) for at in range(max(deep.values()) + 1))


def is_table(program, paths, value):
    """Whether a tuple of integers has what point 20 asks of a table."""
    on = rests(program, paths)
    if value[0] != 0:
        return False
    for at in range(2 ** len(paths)):
        inside = [path for index, path in enumerate(paths) if at >> index & 1]
        for index, path in enumerate(paths):
            if path not in inside:
                if value[at + 2 ** index] > value[at] + sum(on.get((path, other), 0) for other in inside):
                    return False
    return True


class Checks(unittest.TestCase):

    def check_levels(self, program, paths):
        """What levels and tower return or raise for a small program."""
        circles = by_size(every_circle(program, paths))
        with self.subTest(program=program.uses, paths=paths):
            if circles:
                for function in (levels, tower):
                    with self.assertRaises(Circular) as caught:
                        function(program, paths)
                    self.assertEqual(caught.exception.evidence, circles[0])
            else:
                self.assertEqual(levels(program, paths), expected_levels(program, paths))
                rows = sequences(program, paths)
                longest = max(len(row) for row in rows)
                self.assertEqual(tower(program, paths), min(row for row in rows if len(row) == longest))
                self.assertEqual(len(tower(program, paths)), len(levels(program, paths)))
        return bool(circles)

    def check_orders(self, program, paths):
        """What best_order and order_table return for few paths."""
        with self.subTest(program=program.uses, paths=paths):
            orders = sorted(itertools.permutations(paths), key=lambda order: (len(against(program, order)), order))
            self.assertEqual(best_order(program, paths), (orders[0], against(program, orders[0])))
            table = order_table(program, paths)
            self.assertIsInstance(table, tuple)
            self.assertEqual([isinstance(number, int) for number in table], [True] * 2 ** len(paths))
            for at, number in enumerate(table):
                inside = [path for index, path in enumerate(paths) if at >> index & 1]
                fewest = min(len(against(program, order)) for order in itertools.permutations(inside))
                self.assertEqual(number, fewest)
            self.assertIs(table_holds(program, paths, table), True)
            self.assertEqual(table[-1], len(best_order(program, paths)[1]))


class TestInterface(unittest.TestCase):

    def test_each_function_is_defined_in_this_file_with_its_arguments(self):
        for name, parameters in (("levels", ("program", "paths")), ("tower", ("program", "paths")),
                                 ("best_order", ("program", "paths")), ("order_table", ("program", "paths")),
                                 ("table_holds", ("program", "paths", "value"))):
            function = getattr(levels_file, name)
            self.assertEqual(function.__module__, "mayrest.levels")
            self.assertEqual(tuple(inspect.signature(function).parameters), parameters)

    def test_the_example_of_point_19(self):
        told = [levels(P, ("app.ui", "app.core", "app.db", "lib.log", "lib.net")), tower(P, ("app.db", "lib.log", "lib.net"))]
        self.assertEqual(repr(told), "[(('app.ui', 'lib.net'), ('app.core',), ('app.db',), ('lib.log',)), ('app.db', 'lib.log')]")

    def test_the_example_of_point_20(self):
        paths = ("app.db", "app.core", "app.ui")
        told = [best_order(R, paths), order_table(R, paths)]
        self.assertEqual(repr(told), "[(('app.core', 'app.db', 'app.ui'), (('app.ui', 'app.core'),)), (0, 0, 0, 0, 0, 0, 0, 1)]")


class TestLevelsAndTower(Checks):

    def test_small_programs(self):
        circular = []
        for program in [*some_programs(71, 40, 5, 5), *some_programs(72, 40, 8, 6), EMPTY]:
            for paths in PATHS:
                if len(paths) < 8:
                    circular.append(self.check_levels(program, paths))
        self.assertGreater(min(circular.count(True), circular.count(False)), 50)

    def test_eight_paths(self):
        for program in some_programs(73, 8, 8, 6):
            self.check_levels(program, PATHS[7])

    def test_paths_with_many_names(self):
        modules = ("a.b.c.d.e.f", "a.b.c.d.e.g", "a.b.c.d.x.y", "b.b.b.b.b.b", "b.b.b.b.b.c", "b.b.b.b.d")
        paths = ("a.b.c.d.e", "b.b.b.b.b.b", "a.b.c.d.x.y", "b.b.b.b.b.c", "b.b.b.b.d")
        rng = random.Random(74)
        for _ in range(60):
            uses = rng.sample(list(itertools.permutations(modules, 2)), rng.randint(0, 6))
            self.check_levels(Program(modules, tuple(uses)), paths)
        self.assertEqual(levels(Program(modules, ((modules[5], modules[3]), (modules[3], modules[1]))), paths),
                         (("a.b.c.d.x.y", "b.b.b.b.b.c", "b.b.b.b.d"), ("b.b.b.b.b.b",), ("a.b.c.d.e",)))

    def test_one_path(self):
        for program in (EMPTY, P, R, longest_ring(), crowded(71)):
            for path in ("app", "app.db", "a", "x", "a.b.c.d.e.f"):
                self.assertEqual(levels(program, (path,)), ((path,),))
                self.assertEqual(tower(program, (path,)), (path,))

    def test_paths_that_cover_nothing(self):
        self.assertEqual(levels(P, ("z", "lib.log", "y", "app.db")), (("app.db", "y", "z"), ("lib.log",)))
        self.assertEqual(tower(P, ("z", "x", "y")), ("x",))
        self.assertEqual(tower(EMPTY, ("z", "y")), ("y",))

    def test_the_first_of_several_towers(self):
        program = Program.of(("b", "d"), ("b", "c"), ("a", "d"), ("d", "f"), ("c", "e"))
        self.assertEqual(tower(program, ("b", "d", "c", "a", "f", "e")), ("a", "d", "f"))
        self.assertEqual(tower(program, ("b", "d", "c", "f", "e")), ("b", "c", "e"))
        self.assertEqual(levels(program, ("b", "d", "c", "a", "f", "e")), (("a", "b"), ("c", "d"), ("e", "f")))

    def test_a_path_stands_below_all_that_rest_on_it(self):
        program = Program.of(("a", "b"), ("b", "c"), ("a", "c"), ("x", "c"), ("x", "y"))
        self.assertEqual(levels(program, ("c", "b", "a", "x", "y")), (("a", "x"), ("b", "y"), ("c",)))

    def test_the_first_evidence(self):
        program = Program.of(("a.x", "b"), ("b", "a.y"), ("a.a", "c"), ("c", "d"), ("d", "a.b"))
        for paths, evidence in ((("a", "b", "c", "d"), (("a.x", "b"), ("b", "a.y"))),
                                (("d", "c", "a"), (("a.a", "c"), ("c", "d"), ("d", "a.b")))):
            for function in (levels, tower):
                with self.assertRaises(Circular) as caught:
                    function(program, paths)
                self.assertEqual(caught.exception.evidence, evidence)

    def test_at_the_limits(self):
        paths = tuple("a." + name for name in "abcdefgh")
        self.assertEqual(levels(crowded_downwards(), paths), tuple((path,) for path in paths))
        self.assertEqual(tower(crowded_downwards(), paths[::-1]), paths)
        with self.assertRaises(Circular) as caught:
            levels(longest_ring(), ("a", "b", "c"))
        self.assertEqual(caught.exception.evidence, (("a.h", "b.x.a"), ("b.x.h", "c.a"), ("c.h", "a.a")))


class TestOverlap(unittest.TestCase):

    def check(self, program, paths, path):
        for function in (*FUNCTIONS, lambda program, paths: table_holds(program, paths, (0,))):
            with self.assertRaises(Overlap) as caught:
                function(program, paths)
            self.assertEqual(caught.exception.path, path)

    def test_the_first_that_overlaps_an_earlier_one(self):
        for paths, path in ((("a", "a"), "a"), (("a", "a.b"), "a.b"), (("a.b", "a"), "a"), (("a.b", "c", "a.c", "a", "c"), "a"),
                            (("a.b.c.d.e.f", "b", "a.b.c.d.e"), "a.b.c.d.e"), (("x", "a", "b.c", "b.c.d", "a"), "b.c.d")):
            for program in (EMPTY, P, R, longest_ring()):
                self.check(program, paths, path)

    def test_ahead_of_a_ring(self):
        self.check(R, ("app.db", "app.ui", "app.core", "app"), "app")
        self.check(Program.of(("a", "b"), ("b", "a")), ("a", "b", "a"), "a")

    def test_ahead_of_any_value(self):
        for value in any_values():
            with self.assertRaises(Overlap):
                table_holds(P, ("lib", "lib.net"), value)

    def test_letters_in_common_are_no_overlap(self):
        self.assertEqual(levels(EMPTY, ("app", "apple", "ap", "b.app", "apq")), (("ap", "app", "apple", "apq", "b.app"),))


class TestOrders(Checks):

    def test_small_programs(self):
        for program in [*some_programs(75, 40, 6, 14), *some_programs(76, 30, 8, 30), EMPTY]:
            for paths in PATHS:
                if len(paths) < 5:
                    self.check_orders(program, paths)
        for program in some_programs(77, 6, 8, 30):
            self.check_orders(program, ("d", "c.b", "b", "c.a", "a"))

    def test_several_best_orders(self):
        pairs = tuple(itertools.permutations("abc", 2))
        self.assertEqual(best_order(Program.of(*pairs), ("c", "a", "b"))[0], ("a", "b", "c"))
        self.assertEqual(best_order(EMPTY, ("c", "a", "d", "b")), (("a", "b", "c", "d"), ()))
        ring = Program.of(("c", "b"), ("b", "a"), ("a", "c"))
        self.assertEqual(best_order(ring, ("b", "c", "a")), (("a", "c", "b"), (("b", "a"),)))
        self.assertEqual(best_order(Program.of(("b", "a"), ("d", "c")), ("d", "c", "b", "a")), (("b", "a", "d", "c"), ()))

    def test_uses_count_one_by_one(self):
        program = Program.of(("a.x", "b.x"), ("a.x", "b.y"), ("a.y", "b.x"), ("b.x", "a.x"), ("b.y", "a.x"), ("a.x", "a.y"),
                             ("b.z", "c"), ("c", "a.y"))
        self.assertEqual(best_order(program, ("b", "a")), (("a", "b"), (("b.x", "a.x"), ("b.y", "a.x"))))
        self.assertEqual(order_table(program, ("b", "a")), (0, 0, 0, 2))

    def test_one_path(self):
        for program in (EMPTY, P, longest_ring()):
            self.assertEqual(best_order(program, ("app",)), (("app",), ()))
            self.assertEqual(order_table(program, ("app",)), (0, 0))

    def test_eight_paths(self):
        paths = ("c.b", "a.a", "b.x.h", "c.a", "b.x.a", "a.h", "a.b", "b.x.b")
        for program in (crowded(72), crowded(73), crowded_downwards(), longest_ring()):
            order, uses = best_order(program, paths)
            table = order_table(program, paths)
            self.assertEqual((sorted(order), uses), (sorted(paths), against(program, order)))
            self.assertEqual((len(table), table[-1]), (256, len(uses)))
            self.assertIs(table_holds(program, paths, table), True)
            self.assertEqual(table[1 + 4 + 32 + 128], order_table(program, tuple(paths[at] for at in (0, 2, 5, 7)))[-1])
            # No later order is better, and no earlier one as good, that differs by two paths that change places.
            for one, other in itertools.combinations(range(8), 2):
                row = list(order)
                row[one], row[other] = row[other], row[one]
                self.assertGreaterEqual((len(against(program, row)), tuple(row)), (len(uses), order))

    def test_where_a_ring_is(self):
        for paths in (("a", "b.x", "c"), ("c", "a.a", "b.x")):
            self.check_orders(longest_ring(), paths)


class TestTableHolds(unittest.TestCase):

    def test_tables_with_a_number_changed(self):
        told = []
        for program in [R, *some_programs(78, 12, 6, 14)]:
            for paths in (("app.db", "app.core", "app.ui"), ("a", "b", "c"), ("c.a", "a.a"), ("b",)):
                table = order_table(program, paths)
                for at, more in itertools.product(range(len(table)), (-(10 ** 39), -1, 1, 2, 10 ** 39)):
                    value = (*table[:at], table[at] + more, *table[at + 1:])
                    expected = is_table(program, paths, value)
                    with self.subTest(program=program.uses, paths=paths, value=value):
                        self.assertIs(table_holds(program, paths, value), expected)
                    told.append(expected)
        self.assertGreater(min(told.count(True), told.count(False)), 100)

    def test_tables_that_ask_for_less(self):
        table = order_table(R, ("app.db", "app.core", "app.ui"))
        self.assertEqual(table[-1], 1)
        for value in ((0,) * 8, (0, *(-5,) * 7), (0, 0, 0, 0, 0, 0, -1, 0), table):
            self.assertIs(table_holds(R, ("app.db", "app.core", "app.ui"), value), True)
        for value in ((1,) * 8, (-1,) * 8, (0, 0, 0, 0, 0, 0, 0, 2), (0, 1, 0, 0, 0, 0, 0, 0), (0, 0, 0, 0, 0, 0, -1, 1)):
            self.assertIs(table_holds(R, ("app.db", "app.core", "app.ui"), value), is_table(R, ("app.db", "app.core", "app.ui"), value))

    def test_bools_are_no_numbers(self):
        paths = ("app.db", "app.core", "app.ui")
        for at in range(8):
            table = list(order_table(R, paths))
            table[at] = bool(table[at])
            self.assertIs(table_holds(R, paths, tuple(table)), False)
        self.assertIs(table_holds(R, paths, (False,) * 8), False)

    def test_too_few_too_many_and_lists(self):
        paths = ("app.db", "app.core", "app.ui")
        for value in ((), (0,), (0,) * 7, (0,) * 9, (0,) * 16, [0] * 8, list(order_table(R, paths)), None, "00000000", {0: 0},
                      (0,) * 2000, ((0,) * 8,)):
            self.assertIs(table_holds(R, paths, value), False)

    def test_tables_that_are_changed_at_any_place(self):
        for paths in (("app.db", "app.core", "app.ui"), ("lib", "app")):
            for value in replaced(order_table(R, paths)):
                fits = (isinstance(value, tuple) and len(value) == 2 ** len(paths)
                        and all(type(number) is int for number in value))
                with self.subTest(value=value):
                    self.assertIs(table_holds(R, paths, value), fits and is_table(R, paths, value))

    def test_any_values(self):
        for value in any_values():
            for paths in (("app", "lib"), ("app",)):
                self.assertIs(table_holds(P, paths, value), False)
                whole = (0, value, 0, 0)[:2 ** len(paths)]
                self.assertIs(table_holds(P, paths, whole), type(value) is int and is_table(P, paths, whole))

    def test_what_it_accepts_shows_how_many_uses_are_against_each_order(self):
        rng = random.Random(79)
        for program in some_programs(79, 40, 6, 14):
            paths = tuple(rng.sample(("a", "b", "c", "d", "ab"), 3))
            fewest = min(len(against(program, order)) for order in itertools.permutations(paths))
            for _ in range(40):
                value = tuple(number + rng.choice((0, 0, 0, 0, 1, -1)) for number in order_table(program, paths))
                if table_holds(program, paths, value):
                    self.assertLessEqual(value[-1], fewest)


class TestConventions(unittest.TestCase):

    def test_arguments_stay_as_they_are_and_equal_calls_return_equal_results(self):
        for program in (P, EMPTY, crowded_downwards()):
            kept = copy.deepcopy((program.modules, program.uses))
            for paths in (("lib", "app.ui", "app.core"), ("a", "b", "c", "x"), tuple(CROWD[:8])):
                value = [*order_table(program, paths)]
                told = []
                for _ in range(2):
                    told.append([best_order(program, paths), order_table(program, paths), table_holds(program, paths, value)])
                    if not any(begins(path, "lib") for path in paths):
                        told[-1].extend([levels(program, paths), tower(program, paths)])
                self.assertEqual(told[0], told[1])
                self.assertEqual(value, [*order_table(program, paths)])
            self.assertEqual((program.modules, program.uses), kept)


if __name__ == "__main__":
    unittest.main()
