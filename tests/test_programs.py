"""Points 5 and 6: the programs of mayrest.programs, and point 3 as far as it speaks of them."""

import copy
import inspect
import itertools
import random
import unittest

from mayrest import programs
from mayrest.bounds import MAX_MODULES, MAX_USES
from mayrest.errors import BadProgram, BadUse, Clash, RestError, TooMany
from mayrest.programs import Program, program_error
from tests.models import CROWD, EMPTY, P, POOL, Q, all_programs, begins, crowded, pairs_of, random_program
from tests.samples import any_values, other_values

NAMES = ("a", "b", "c")
NO_PATHS = ["", ".", "a.", "A", "a b", "aaaaaaaaa", "a.b.c.d.e.f.g", "a\n", *other_values()]
NO_TUPLES = [value for value in any_values() if not isinstance(value, tuple)]


def retold_pair(value, modules):
    """Whether the value is a pair of two different ones of the modules."""
    if not isinstance(value, tuple) or len(value) != 2:
        return False
    return all(isinstance(item, str) and item in modules for item in value) and value[0] != value[1]


class TestInterface(unittest.TestCase):

    def test_what_the_file_lists_is_defined_in_it(self):
        self.assertEqual((program_error.__module__, Program.__module__), ("mayrest.programs", "mayrest.programs"))
        self.assertEqual(tuple(inspect.signature(program_error).parameters), ("modules", "uses"))
        self.assertEqual(tuple(inspect.signature(Program).parameters), ("modules", "uses"))
        self.assertEqual(programs.Program.__name__, "Program")

    def test_each_method_is_defined_in_the_class_itself(self):
        for name in ("within", "includes", "of", "__len__", "__contains__", "__eq__", "__or__", "__and__", "__sub__",
                     "__str__", "modules", "uses", "parts"):
            self.assertIn(name, vars(Program))
        for name in ("modules", "uses", "parts"):
            self.assertIsInstance(vars(Program)[name], property)
        self.assertIsInstance(vars(Program)["of"], classmethod)

    def test_the_example_of_point_6(self):
        told = [Q.modules, len(P | Q), "lib" in P, ("app.ui", "app.core") in P, P.includes(Q), (P & Q).uses,
                str(P - Q), P.within("app")]
        self.assertEqual(repr(told), "[('app.ui', 'lib.log', 'lib.net'), 6, True, True, False, (), "
                         "'5 modules, 4 uses', ('app.core', 'app.db', 'app.ui')]")


class Checks(unittest.TestCase):

    def check(self, modules, uses, expected):
        """What program_error returns, and that Program raises just this, and changes nothing."""
        with self.subTest(modules=repr(modules)[:60], uses=repr(uses)[:60]):
            before = repr((modules, uses))
            self.assertEqual(repr(program_error(modules, uses)), repr(expected))
            self.assertEqual(repr(program_error(modules, uses)), repr(expected))
            if expected is None:
                Program(modules, uses)
            else:
                with self.assertRaises(BadProgram) as caught:
                    Program(modules, uses)
                self.assertEqual(repr(caught.exception.error), repr(expected))
            self.assertEqual(repr((modules, uses)), before)


class TestProgramError(Checks):

    def test_programs(self):
        self.check((), (), None)
        self.check(("a",), (), None)
        self.check(("a", "b"), (), None)
        self.check(("b", "a"), (("b", "a"), ("a", "b")), None)
        self.check(("app", "apple", "ap", "b.app", "b.apple"), (("app", "apple"), ("b.app", "app")), None)
        self.check(P.modules, P.uses, None)

    def test_no_tuple_of_modules(self):
        for value in NO_TUPLES:
            self.check(value, (), (None, "modules"))
            self.check(value, None, (None, "modules"))
        self.check(["a", "b"], (("a", "b"),), (None, "modules"))

    def test_so_many_modules(self):
        for many in range(20, MAX_MODULES + 1):
            self.check(CROWD[:many], (), None)
        self.check((*CROWD, "d"), (), (None, "modules"))
        self.check((*CROWD, "a.a"), (), (None, "modules"))
        self.check((None,) * (MAX_MODULES + 1), (), (None, "modules"))
        self.check((None,) * MAX_MODULES, (), (0, "path"))
        self.check((*CROWD[:-1], None), (), (MAX_MODULES - 1, "path"))
        self.check(("a",) * 2000, (), (None, "modules"))

    def test_no_paths_at_each_index(self):
        for value in NO_PATHS:
            for index in range(3):
                modules = list(NAMES)
                modules[index] = value
                self.check(tuple(modules), (), (index, "path"))

    def test_equal_modules_and_modules_above_and_below(self):
        for path in ("b", "b.x", "b.x.y.z.u.v"):
            self.check(("b", "a", path), (), (2, "overlap"))
            self.check((path, "b", "a"), (), (1, "overlap"))
        self.check(("b.x.y", "b.x.z", "b.x"), (), (2, "overlap"))
        self.check(("b.x.y", "b.x.z", "b.xy", "b.x.u"), (), None)
        self.check(("a", "a", "a"), (), (1, "overlap"))

    def test_the_first_module_with_a_reason_stands(self):
        self.check(("a", "a.b", None), (), (1, "overlap"))
        self.check(("a", None, "a.b"), (), (1, "path"))
        self.check((None, None), (), (0, "path"))
        self.check(("a", "a", "a..b"), None, (1, "overlap"))

    def test_modules_come_before_uses(self):
        self.check(("a", "a"), (("a", "a"),), (1, "overlap"))
        self.check(("a", ""), None, (1, "path"))
        self.check((), None, (None, "uses"))

    def test_no_tuple_of_uses(self):
        for value in NO_TUPLES:
            self.check(("a", "b"), value, (None, "uses"))
        self.check(("a", "b"), [("a", "b")], (None, "uses"))

    def test_so_many_uses(self):
        pairs = tuple(pairs_of(CROWD))
        self.check(CROWD, pairs[:MAX_USES - 1], None)
        self.check(CROWD, pairs[:MAX_USES], None)
        self.check(CROWD, pairs[:MAX_USES + 1], (None, "uses"))
        self.check(CROWD, (None,) * (MAX_USES + 1), (None, "uses"))
        self.check(CROWD, (None,) * MAX_USES, (0, "use"))
        self.check(CROWD, (*pairs[:MAX_USES - 1], None), (MAX_USES - 1, "use"))
        self.check(CROWD, (*pairs[:MAX_USES - 1], pairs[0]), (MAX_USES - 1, "again"))

    def test_no_use_at_each_index(self):
        wrong = [("a", "a"), ("a",), ("a", "b", "c"), ["a", "b"], ("a", ["b"]), ("a", "d"), ("d", "a"), ("a", None),
                 (None, "a"), ("a", ("b",)), (["a"], "b"), ({}, "b"), ("a", ""), (("a", "b"), "c"), ("A", "b"),
                 ("a", "b.x"), "ab", {"a": "b"}, *any_values()]
        for value in wrong:
            for index in range(3):
                uses = [("a", "b"), ("b", "c"), ("c", "a")]
                uses[index] = value
                self.check(NAMES, tuple(uses), (index, "use"))

    def test_uses_of_parts_that_are_no_modules(self):
        modules = ("app.core", "app.db.sql", "lib")
        for use in (("app", "lib"), ("lib", "app"), ("lib", "app.db"), ("app.core", "app.db"), ("lib", "lib.x")):
            self.check(modules, (("app.core", "lib"), use), (1, "use"))

    def test_uses_that_occur_earlier(self):
        self.check(NAMES, (("a", "b"), ("a", "b")), (1, "again"))
        self.check(NAMES, (("a", "b"), ("b", "a"), ("b", "c"), ("b", "a")), (3, "again"))
        self.check(NAMES, (("a", "b"), ("a", "b"), ("a", "a")), (1, "again"))
        self.check(NAMES, (("a", "b"), ("a", "a"), ("a", "b")), (1, "use"))
        self.check(NAMES, (("a", "a"), ("a", "a")), (0, "use"))

    def test_any_two_values(self):
        values = any_values()
        for modules, uses in itertools.product(values, repeat=2):
            error = program_error(modules, uses)
            self.assertTrue(error is None or isinstance(error, tuple) and len(error) == 2)

    def test_all_short_rows_of_uses(self):
        modules = ("a", "b.x")
        items = [("a", "b.x"), ("b.x", "a"), ("a", "b"), ("a", "a"), None]
        for uses in itertools.product(items, repeat=3):
            expected = None
            for index, use in reversed(list(enumerate(uses))):
                if not retold_pair(use, modules):
                    expected = (index, "use")
                elif use in uses[:index]:
                    expected = (index, "again")
            self.check(modules, uses, expected)

    def test_all_short_rows_of_modules(self):
        for modules in itertools.product(("a", "a.b", "a.bc", "a.b.c", ""), repeat=3):
            expected = None
            for index, path in reversed(list(enumerate(modules))):
                if path == "":
                    expected = (index, "path")
                elif any(begins(path, other) or begins(other, path) for other in modules[:index] if other):
                    expected = (index, "overlap")
            self.check(modules, (), expected)


class TestProperties(unittest.TestCase):

    def test_modules_uses_and_parts_are_ascending_in_any_order(self):
        rng = random.Random(6)
        for _ in range(50):
            modules = rng.sample(POOL, 5)
            uses = rng.sample(pairs_of(modules), 7)
            program = Program(tuple(modules), tuple(uses))
            self.assertEqual(program.modules, tuple(sorted(modules)))
            self.assertEqual(program.uses, tuple(sorted(uses)))
            parts = {".".join(module.split(".")[:many]) for module in modules for many in range(1, 7)}
            self.assertEqual(program.parts, tuple(sorted(parts)))
            self.assertEqual(program, Program(tuple(reversed(modules)), tuple(reversed(uses))))

    def test_parts_stand_once_and_as_strings_stand(self):
        program = Program(("ab.c", "a.b.c.d.e.f", "a.b.x", "a.bc"), ())
        self.assertEqual(program.parts, ("a", "a.b", "a.b.c", "a.b.c.d", "a.b.c.d.e", "a.b.c.d.e.f", "a.b.x", "a.bc",
                                         "ab", "ab.c"))
        self.assertEqual((EMPTY.modules, EMPTY.uses, EMPTY.parts), ((), (), ()))

    def test_they_can_only_be_read(self):
        program = Program(("a", "b"), (("a", "b"),))
        for name in ("modules", "uses", "parts"):
            with self.assertRaises(AttributeError):
                setattr(program, name, ())
        self.assertEqual((program.modules, program.uses, program.parts), (("a", "b"), (("a", "b"),), ("a", "b")))

    def test_at_the_limits(self):
        program = crowded(1)
        self.assertEqual((len(program.modules), len(program.uses), len(program)), (24, 200, 200))
        self.assertEqual(program.modules, tuple(sorted(CROWD)))
        self.assertEqual(len(program.parts), 24 + 4)
        self.assertEqual(str(program), "24 modules, 200 uses")


class TestBuiltins(unittest.TestCase):

    def test_len(self):
        self.assertEqual([len(EMPTY), len(Program(("a",), ())), len(P), len(Q)], [0, 0, 4, 2])

    def test_str(self):
        self.assertEqual([str(EMPTY), str(P), str(Program(("a",), ())), str(Program.of(("a", "b")))],
                         ["0 modules, 0 uses", "5 modules, 4 uses", "1 modules, 0 uses", "2 modules, 1 uses"])

    def test_in_is_true_for_parts_and_uses(self):
        for value in ("app", "lib", *P.modules, *P.uses):
            self.assertIs(value in P, True)

    def test_in_is_false_for_everything_else(self):
        for value in ("ap", "app.", "core", "app.core.x", "tools", "", ("app.db", "app.core"), ("app", "lib"),
                      ("app.core",), ["app.core", "app.db"], ("app.core", "app.db", "app.db"), "app.core app.db",
                      ("app.core", ["app.db"]), ("app.core", None), P, P.uses, P.modules, *other_values()):
            with self.subTest(value=repr(value)[:60]):
                self.assertIs(value in P, False)
        for value in any_values():
            self.assertIs(value in EMPTY, False)

    def test_in_for_parts_that_are_strings_within(self):
        program = Program(("ab.cd", "ab.ce"), ())
        self.assertEqual([value in program for value in ("ab", "ab.cd", "a", "b", "cd", "ab.c", "ab.cd.e")],
                         [True, True, False, False, False, False, False])

    def test_equal_programs(self):
        self.assertIs(P == Program(P.modules[::-1], P.uses[::-1]), True)
        self.assertIs(P != Program(P.modules[::-1], P.uses[::-1]), False)
        self.assertIs(EMPTY == Program.of(), True)

    def test_programs_that_are_not_equal(self):
        for other in (Program(P.modules, P.uses[1:]), Program((*P.modules, "x"), P.uses), Q, EMPTY,
                      Program(P.modules, ())):
            self.assertIs(P == other, False)
            self.assertIs(other == P, False)
            self.assertIs(P != other, True)

    def test_a_program_equals_nothing_of_another_kind(self):
        for value in (P.modules, P.uses, (P.modules, P.uses), str(P), len(P), *any_values()):
            with self.subTest(value=repr(value)[:60]):
                self.assertIs(P == value, False)
                self.assertIs(value == P, False)
                self.assertIs(EMPTY == value, False)


class TestOperators(unittest.TestCase):

    def test_or_and_minus_and_includes_of_small_programs(self):
        rows = [*all_programs(("a", "b")), *all_programs(("b", "c")), *all_programs(("d",)), EMPTY,
                *list(all_programs(NAMES))[::9]]
        for one, other in itertools.product(rows, repeat=2):
            modules, others = set(one.modules), set(other.modules)
            uses, more = set(one.uses), set(other.uses)
            both = one | other
            self.assertEqual((set(both.modules), set(both.uses)), (modules | others, uses | more))
            self.assertEqual(both, other | one)
            shared = one & other
            self.assertEqual((set(shared.modules), set(shared.uses)), (modules & others, uses & more))
            rest = one - other
            self.assertEqual((set(rest.modules), set(rest.uses)), (modules, uses - more))
            self.assertIs(one.includes(other), others <= modules and more <= uses)
            self.assertIs(one == other, modules == others and uses == more)
            for result in (both, shared, rest):
                self.assertEqual((result.modules, result.uses),
                                 (tuple(sorted(result.modules)), tuple(sorted(result.uses))))
                self.assertIsInstance(result, Program)

    def test_includes_asks_for_modules_and_for_uses(self):
        self.assertIs(P.includes(P), True)
        self.assertIs(P.includes(EMPTY), True)
        self.assertIs(EMPTY.includes(P), False)
        self.assertIs(P.includes(Program(("app.ui",), ())), True)
        self.assertIs(P.includes(Program(("app",), ())), False)
        self.assertIs(P.includes(Program(P.modules, (("app.db", "app.core"),))), False)
        self.assertIs(P.includes(Program((*P.modules, "tools"), P.uses)), False)

    def test_clash_with_the_first_module_of_other(self):
        one = Program(("a.b", "c", "d.e.f"), ())
        for modules, path in ((("a",), "a"), (("a.b.c",), "a.b.c"), (("d.e", "x"), "d.e"), (("c.x", "a"), "a"),
                              (("d.e.f.g", "c.z", "c.y", "a.b"), "c.y"), (("d", "b"), "d")):
            with self.subTest(modules=modules):
                with self.assertRaises(Clash) as caught:
                    one | Program(modules, ())
                self.assertEqual(caught.exception.path, path)

    def test_no_clash_with_equal_modules_and_with_beginnings_of_letters(self):
        one = Program(("a.b", "c"), ())
        self.assertEqual((one | Program(("a.bc", "a.b", "ab", "cd"), ())).modules, ("a.b", "a.bc", "ab", "c", "cd"))

    def test_too_many_modules(self):
        one = Program(CROWD[:23], ())
        self.assertEqual(len((one | Program(("z.a", "a.a"), ())).modules), 24)
        for other in (Program(("z.a", "z.b"), ()), Program(("z.a", "z.b", "a.a"), ())):
            with self.assertRaises(TooMany) as caught:
                one | other
            self.assertEqual(caught.exception.limit, 24)
        self.assertEqual((Program(CROWD, ()) | Program(CROWD, ())).modules, CROWD)

    def test_too_many_uses(self):
        pairs = tuple(pairs_of(CROWD))
        one = Program(CROWD, pairs[:150])
        self.assertEqual((one | Program(CROWD, pairs[100:200])).uses, pairs[:200])
        with self.assertRaises(TooMany) as caught:
            one | Program(CROWD, pairs[100:201])
        self.assertEqual(caught.exception.limit, 200)

    def test_errors_in_their_order(self):
        pairs = tuple(pairs_of(CROWD))
        full = Program(CROWD, pairs[:200])
        with self.assertRaises(Clash) as caught:
            full | Program(("a.a.x", "z.a", "z.b", "z.c"), (("z.a", "z.b"),))
        self.assertEqual(caught.exception.path, "a.a.x")
        with self.assertRaises(TooMany) as caught:
            full | Program(("z.a", "z.b"), (("z.a", "z.b"), ("z.b", "z.a")))
        self.assertEqual(caught.exception.limit, 24)
        new = tuple(use for use in pairs[200:] if CROWD[-1] not in use)[:100]
        with self.assertRaises(Clash) as caught:
            full | Program((*CROWD[:-1], CROWD[-1] + ".x"), new)
        self.assertEqual(caught.exception.path, CROWD[-1] + ".x")

    def test_and_and_minus_where_modules_overlap(self):
        other = Program(("app", "lib.log"), (("app", "lib.log"),))
        self.assertEqual((P & other), Program(("lib.log",), ()))
        self.assertEqual(P - other, P)
        self.assertEqual(P - P, Program(P.modules, ()))
        self.assertEqual(other - P, other)

    def test_at_the_limits(self):
        one, other = crowded(1), crowded(2)
        self.assertEqual((one & other).uses, tuple(sorted(set(one.uses) & set(other.uses))))
        self.assertEqual((one - other).uses, tuple(sorted(set(one.uses) - set(other.uses))))
        self.assertEqual(one | one, one)
        self.assertIs(one.includes(one & other), True)
        self.assertIs(one.includes(other), False)
        with self.assertRaises(TooMany) as caught:
            one | other
        self.assertEqual(caught.exception.limit, 200)

    def test_within(self):
        self.assertEqual([P.within("app"), P.within("lib.net"), P.within("li"), P.within("lib.net.x"), P.within("core")],
                         [("app.core", "app.db", "app.ui"), ("lib.net",), (), (), ()])
        self.assertEqual(Program(("b.x", "a.c", "ab", "a.b.d"), ()).within("a"), ("a.b.d", "a.c"))
        self.assertEqual(crowded(1).within("b.x"), tuple(sorted(CROWD[8:16])))
        self.assertEqual(EMPTY.within("a"), ())

    def test_no_value_changes(self):
        rng = random.Random(3)
        one, other = random_program(rng, POOL[:5], 9), random_program(rng, POOL[2:7], 9)
        told = [(each.modules, each.uses, each.parts, str(each), len(each)) for each in (one, other)]
        for _ in range(2):
            results = [one | other, one & other, one - other, one.includes(other), one == other, one.within("c"),
                       "c" in one, other - one]
            again = [one | other, one & other, one - other, one.includes(other), one == other, one.within("c"),
                     "c" in one, other - one]
            self.assertEqual(results, again)
        with self.assertRaises(Clash):
            one | Program(("a",), ())
        self.assertEqual(told, [(each.modules, each.uses, each.parts, str(each), len(each)) for each in (one, other)])

    def test_what_was_handed_over_stays_as_it_is(self):
        modules, uses = ("b", "a", "c.x"), (("b", "a"), ("a", "c.x"))
        kept = copy.deepcopy((modules, uses))
        Program(modules, uses)
        Program.of(*uses)
        self.assertEqual((modules, uses), kept)


class TestOf(unittest.TestCase):

    def check_bad_use(self, index, *uses):
        with self.subTest(uses=repr(uses)[:60]):
            with self.assertRaises(BadUse) as caught:
                Program.of(*uses)
            self.assertEqual(caught.exception.index, index)

    def check_bad_program(self, error, *uses):
        with self.subTest(uses=repr(uses)[:60]):
            with self.assertRaises(BadProgram) as caught:
                Program.of(*uses)
            self.assertEqual(caught.exception.error, error)

    def test_it_has_exactly_the_modules_of_the_uses(self):
        self.assertEqual(Program.of(), EMPTY)
        self.assertEqual(Program.of(("b", "a")), Program(("a", "b"), (("b", "a"),)))
        program = Program.of(("z", "b.x"), ("a", "z"), ("b.x", "z"))
        self.assertEqual((program.modules, program.uses),
                         (("a", "b.x", "z"), (("a", "z"), ("b.x", "z"), ("z", "b.x"))))
        self.assertIsInstance(program, Program)

    def test_bad_uses(self):
        for value in (("a", "a"), ("a",), ("a", "b", "c"), ["a", "b"], ("a", "B"), ("", "b"), ("a", None), "ab",
                      ("a", ("b",)), (["a"], ["b"]), ({}, {}), ("a.b.c.d.e.f.g", "b"), (1, 2)):
            self.check_bad_use(0, value)
            self.check_bad_use(1, ("a", "b"), value)
            self.check_bad_use(1, ("a", "b"), value, None)
            self.check_bad_use(2, ("a", "b"), ("b", "c"), value, ("a", "b"))
        for value in any_values():
            if not (isinstance(value, tuple) and value == ("app", "db")):
                self.check_bad_use(0, value, ("a", "b"))

    def test_bad_uses_come_first(self):
        self.check_bad_use(2, ("a", "b"), ("a", "b"), ("a", "a"))
        self.check_bad_use(1, ("a", "a.b"), None)
        self.check_bad_use(300, *pairs_of(CROWD)[:300], None)

    def test_modules_that_overlap(self):
        self.check_bad_program((1, "overlap"), ("a", "a.b"))
        self.check_bad_program((3, "overlap"), ("c", "b"), ("c.x", "a"), ("d", "a"))
        self.check_bad_program((1, "overlap"), ("a.b", "b"), ("a", "b"), ("a", "b"))

    def test_uses_twice(self):
        self.check_bad_program((1, "again"), ("a", "b"), ("a", "b"))
        self.check_bad_program((3, "again"), ("b", "a"), ("a", "b"), ("c", "b"), ("a", "b"))

    def test_so_many_modules_and_uses(self):
        row = [(CROWD[at], CROWD[at + 1]) for at in range(23)]
        self.assertEqual(len(Program.of(*row).modules), 24)
        self.check_bad_program((None, "modules"), *row, ("z", "a.a"))
        pairs = pairs_of(CROWD)
        self.assertEqual(Program.of(*pairs[:200]).uses, tuple(pairs[:200]))
        self.check_bad_program((None, "uses"), *pairs[:201])
        self.check_bad_program((None, "uses"), *pairs[:200], pairs[0])
        self.check_bad_program((None, "modules"), *pairs[:201], *row, ("z", "a.a"))

    def test_errors_are_of_this_package(self):
        for call in (lambda: Program(None, None), lambda: Program.of(None), lambda: Program.of(("a", "a.b"))):
            with self.assertRaises(RestError):
                call()


if __name__ == "__main__":
    unittest.main()
