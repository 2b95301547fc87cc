"""Points 21 to 23: the fewest moves, by mayrest.moves; points 2 (b), (e) and 3, as far as they speak of it."""

import copy
import inspect
import itertools
import random
import unittest

from mayrest import moves as moves_file
from mayrest.books import Book
from mayrest.errors import Clash, TooMany, Unclear
from mayrest.moves import fewest_moves, move_tree, move_tree_holds, moved
from mayrest.programs import Program
from tests.models import EMPTY, P, pairs_of
from tests.rulings import every_evidence, is_broken
from tests.samples import any_values, replaced

B = Book((("layers", (("app.ui",), ("app.core",), ("app.db",)), "chain"), ("forbid", ("lib",), ("app",), "direct"),
          ("noring", ("app", "lib"))))
NONE = Book(())

# Modules with last names that stand nowhere else.
MODULES = ("a.p", "a.q", "b.r", "b.x.s", "c.t", "u")
HOMES = [("a",), ("b", "a"), ("c", "b.x"), ("b.x", "a", "n", "a.m"), ("a.m.n.m.n", "b"), ("n",)]
RULES = [
    *[(*form, how) for form in (("forbid", ("a",), ("b",)), ("forbid", ("b.x", "c"), ("a.q", "u")), ("apart", ("a", "b", "c")),
                                ("layers", (("a", "c"), ("b.x",), ("b.r",)))) for how in ("direct", "chain")],
    ("stairs", (("a",), ("b",), ("c",))), ("only", ("b",), ("a.p",)), ("only", ("a", "u"), ()), ("face", "b", ("b.x",)),
    ("face", "a", ("a.m",)), ("noring", ("a", "b")), ("noring", ("a.p", "b.x", "c", "n")),
]


def path_behind(module, home):
    """The path that a module gets at a home."""
    return ".".join([home, module.split(".")[-1]])


def upper(module):
    """The path of the module without its last name, or None."""
    return ".".join(module.split(".")[:-1]) or None


def after(program, moves):
    """The program after the moves, which do not clash."""
    names = {module: path_behind(module, dict(moves)[module]) if module in dict(moves) else module
             for module in program.modules}
    return Program(tuple(names.values()), tuple((names[user], names[used]) for user, used in program.uses))


def keeps(program, book):
    """Whether a small program keeps the book."""
    return not any(is_broken(program, rule) for rule in book.rules)


def all_fewest(program, book, homes):
    """All tuples of the fewest moves, at most two, after which a small program keeps the book."""
    singles = sorted((module, home) for module in program.modules for home in homes if home != upper(module))
    for many in range(3):
        found = [row for row in itertools.combinations(singles, many) if len({module for module, _ in row}) == many
                 and keeps(after(program, row), book)]
        if found:
            return found
    return []


def is_move_tree(program, book, homes, done, number, value):
    """Whether a value is a move tree for a small program, as point 23 says it."""
    if not isinstance(value, tuple) or len(value) not in (3, 4):
        return False
    word, index, evidence = value[:3]
    if type(index) is not int or not 0 <= index < len(book.rules) or evidence not in every_evidence(program, book.rules[index]):
        return False
    modules = sorted({module for use in evidence for module in use})
    free = [module for module in modules if module.split(".")[-1] not in done]
    if len(value) == 3:
        return word == "left" and (number == 0 or not free)
    if word != "cases" or number == 0:
        return False
    moves = [(module, home) for module in free for home in homes if home != upper(module)]
    trees = value[3]
    return (isinstance(trees, tuple) and len(trees) == len(moves)
            and all(is_move_tree(after(program, [move]), book, homes, (*done, move[0].split(".")[-1]), number - 1, tree)
                    for move, tree in zip(moves, trees)))


def some_cases(seed, many):
    """So many small programs, each with a book and homes."""
    rng = random.Random(seed)
    cases = []
    for _ in range(many):
        uses = rng.sample(pairs_of(MODULES), rng.randint(1, 6))
        cases.append((Program(MODULES, tuple(uses)), Book(tuple(rng.sample(RULES, rng.randint(1, 3)))), rng.choice(HOMES)))
    return cases


class TestInterface(unittest.TestCase):

    def test_each_function_is_defined_in_this_file_with_its_arguments(self):
        for name, parameters in (("moved", "(program, moves)"), ("fewest_moves", "(program, book, homes, *, most=2)"),
                                 ("move_tree", "(program, book, homes, number)"),
                                 ("move_tree_holds", "(program, book, homes, number, value)")):
            function = getattr(moves_file, name)
            self.assertEqual(function.__module__, "mayrest.moves")
            self.assertEqual(str(inspect.signature(function)), parameters)

    def test_the_example_of_point_23(self):
        told = [fewest_moves(P, B, ("app", "lib")), fewest_moves(P, B, ("tools",)), moved(P, (("lib.net", "app"),)) in B]
        self.assertEqual(repr(told), "[(('lib.net', 'app'),), (('app.core', 'tools'),), True]")


class TestMoved(unittest.TestCase):

    def check_clash(self, program, moves, path):
        for row in itertools.permutations(moves):
            with self.assertRaises(Clash) as caught:
                moved(program, row)
            self.assertEqual(caught.exception.path, path)

    def test_moves_that_do_not_clash(self):
        self.assertEqual(moved(P, ()), P)
        program = moved(P, (("app.db", "lib"), ("lib.net", "web.in")))
        self.assertEqual(program.modules, ("app.core", "app.ui", "lib.db", "lib.log", "web.in.net"))
        self.assertEqual(program.uses, (("app.core", "lib.db"), ("app.ui", "app.core"), ("lib.db", "lib.log"),
                                        ("web.in.net", "app.core")))
        self.assertEqual(moved(Program(("x",), ()), (("x", "a.b.c.d.e"),)).modules, ("a.b.c.d.e.x",))
        rng = random.Random(81)
        for program, _, homes in some_cases(81, 60):
            moves = tuple((module, rng.choice(homes)) for module in rng.sample(MODULES, rng.randint(0, 6)))
            self.assertEqual(moved(program, moves), after(program, moves))

    def test_moves_that_swap_two_modules(self):
        program = Program.of(("a.x", "b.y.x"), ("b.y.x", "c"), ("d", "a.x"))
        swapped = moved(program, (("a.x", "b.y"), ("b.y.x", "a")))
        self.assertEqual(swapped, Program.of(("b.y.x", "a.x"), ("a.x", "c"), ("d", "b.y.x")))
        self.assertEqual(moved(swapped, (("b.y.x", "a"), ("a.x", "b.y"))), program)
        round_again = moved(program, (("a.x", "b.y"), ("b.y.x", "e"), ("d", "a")))
        self.assertEqual(round_again, Program.of(("b.y.x", "e.x"), ("e.x", "c"), ("a.d", "b.y.x")))

    def test_moves_to_the_own_parent(self):
        self.assertEqual(moved(P, (("app.db", "app"), ("lib.log", "lib"))), P)
        self.check_clash(Program.of(("app.db", "lib.db")), (("app.db", "app"), ("lib.db", "app")), "app.db")
        self.check_clash(Program.of(("app.db", "lib.db")), (("lib.db", "app"),), "app.db")

    def test_the_first_clash(self):
        program = Program(("a.x", "b.x", "c.x.y", "d", "e.y", "f.x"), ())
        self.check_clash(program, (("a.x", "b"),), "b.x")
        self.check_clash(program, (("a.x", "c"),), "c.x")
        self.check_clash(program, (("a.x", "d"),), "d.x")
        self.check_clash(program, (("a.x", "b.x"),), "b.x.x")
        self.check_clash(program, (("d", "a.x"),), "a.x.d")
        self.check_clash(program, (("a.x", "z"), ("b.x", "z")), "z.x")
        # The module of a path without a clash does not count, and neither does one that is not moved.
        self.check_clash(program, (("a.x", "a.a"), ("b.x", "f"), ("e.y", "c.x")), "c.x.y")
        self.check_clash(program, (("a.x", "f"), ("e.y", "d")), "d.y")
        self.check_clash(program, (("e.y", "a.x"), ("a.x", "z"), ("b.x", "f"), ("c.x.y", "z.x")), "f.x")
        self.check_clash(program, (("a.x", "z"), ("c.x.y", "z.x")), "z.x")
        self.assertEqual(moved(program, (("b.x", "z"), ("a.x", "b"))).modules, ("b.x", "c.x.y", "d", "e.y", "f.x", "z.x"))

    def test_names_with_letters_in_common_do_not_clash(self):
        program = Program(("a.x", "b.xx", "b.xy.z"), ())
        self.assertEqual(moved(program, (("a.x", "b"),)).modules, ("b.x", "b.xx", "b.xy.z"))

    def test_programs_at_the_limits(self):
        modules = tuple(part + "." + name * 2 for part in "abc" for name in "abcdefgh")
        program = Program(modules, tuple(pairs_of(modules)[:200]))
        moves = tuple((module, "z.y.x.w." + module[0]) for module in modules)
        self.assertEqual(moved(program, moves), after(program, moves))
        self.assertEqual(len(moved(program, moves)), 200)


class TestUnclear(unittest.TestCase):

    def check(self, program, homes, name):
        calls = [lambda book: fewest_moves(program, book, homes, most=0), lambda book: fewest_moves(program, book, homes),
                 lambda book: move_tree(program, book, homes, 0), lambda book: move_tree(program, book, homes, 1),
                 *[lambda book, value=value: move_tree_holds(program, book, homes, number, value)
                   for value in any_values()[::4] for number in (0, 1)]]
        books = [NONE, B, Book((("noring", ("x", "y")), ("only", ("a", "b", "c"), ()), ("apart", ("a", "b", "c"), "chain")))]
        for call, book in itertools.product(calls, books):
            with self.assertRaises(Unclear) as caught:
                call(book)
            self.assertEqual(caught.exception.name, name)

    def test_each_place_where_a_last_name_may_stand_again(self):
        for modules, homes, name in (
                (("a.x", "b.x"), ("c",), "x"), (("a.x", "x.b"), ("c",), "x"), (("a.x", "b.x.c"), ("c.d",), "c"),
                (("a.x", "b.x.d"), ("c",), "x"), (("a.a",), ("b",), "a"), (("x.b.x",), ("c",), "x"), (("a.x",), ("x",), "x"),
                (("a.x",), ("c", "b.x"), "x"), (("a.x",), ("c", "x.b"), "x"), (("a.x",), ("b", "c.x.d"), "x"),
                (("x",), ("x",), "x"), (("x", "y.x"), ("c",), "x"), (("a.x", "b"), ("b.c.b",), "b")):
            with self.subTest(modules=modules, homes=homes):
                self.check(Program(modules, ()), homes, name)

    def test_the_first_name(self):
        self.check(Program(("a.y", "b.y", "c.x", "d.x"), ()), ("z",), "x")
        self.check(Program(("a.y", "b.x"), ()), ("y", "x"), "x")
        self.check(Program(("a.y", "b.z", "c.xx"), ()), ("z", "y.xx"), "xx")

    def test_ahead_of_too_many(self):
        program = Program.of(("a.x", "b.x"), ("b.x", "a.x"), ("a.y", "b.z"))
        self.check(program, ("c",), "x")

    def test_other_names_may_stand_again(self):
        program = Program.of(("a.b.x", "a.b.y"), ("b.a.z", "a.a.w"))
        self.assertEqual(fewest_moves(program, NONE, ("a", "a.b", "b.b.b.b.b")), ())
        self.assertIsNone(move_tree(program, NONE, ("a", "a.b"), 1))
        self.assertIs(move_tree_holds(program, NONE, ("a", "a.b"), 0, None), False)
        self.assertEqual(fewest_moves(EMPTY, B, ("a", "b")), ())


class TestAgainstAllSetsOfMoves(unittest.TestCase):

    def check_too_many(self, limit, *args, **more):
        with self.assertRaises(TooMany) as caught:
            fewest_moves(*args, **more)
        self.assertEqual(caught.exception.limit, limit)

    def check(self, program, book, homes):
        with self.subTest(program=program.uses, rules=book.rules, homes=homes):
            expected = all_fewest(program, book, homes)
            needed = len(expected[0]) if expected else 3
            for most in range(3):
                if needed <= most:
                    self.assertEqual(fewest_moves(program, book, homes, most=most), expected[0])
                else:
                    self.check_too_many(most, program, book, homes, most=most)
            if expected:
                self.assertEqual(fewest_moves(program, book, homes), min(expected))
            else:
                self.check_too_many(2, program, book, homes)
            for number in (0, 1):
                tree = move_tree(program, book, homes, number)
                self.assertIs(tree is None, needed <= number)
                if tree is not None:
                    self.assertIs(is_move_tree(program, book, homes, (), number, tree), True)
                    self.assertIs(move_tree_holds(program, book, homes, number, tree), True)
        return needed

    def test_small_programs(self):
        needed = [self.check(*case) for case in some_cases(82, 250)]
        for many in range(4):
            self.assertGreater(needed.count(many), 15)

    def test_one_home_and_a_parent_alone(self):
        program = Program.of(("a.x", "a.y"))
        book = Book((("only", ("a.x", "a.y"), ()),))
        self.check_too_many(2, program, book, ("a",))
        self.assertEqual(move_tree(program, book, ("a",), 1), ("cases", 0, (("a.x", "a.y"),), ()))
        self.check(program, book, ("a",))
        self.assertEqual(fewest_moves(program, book, ("a", "b")), (("a.y", "b"),))

    def test_the_first_of_several_tuples(self):
        program = Program.of(("a.y", "b.x"), ("a.z", "b.w"))
        book = Book((("forbid", ("a",), ("b",), "direct"),))
        self.assertEqual(fewest_moves(program, book, ("d", "c")), (("a.y", "c"), ("a.z", "c")))
        self.assertEqual(fewest_moves(program, book, ("b", "a")), (("a.y", "b"), ("a.z", "b")))
        self.assertEqual(fewest_moves(program, book, ("a",)), (("b.w", "a"), ("b.x", "a")))
        self.assertEqual(fewest_moves(Program.of(("a.y", "b.x")), book, ("a", "d", "c")), (("a.y", "c"),))

    def test_a_move_that_breaks_what_was_kept(self):
        program = Program.of(("a.y", "b.x"), ("c.z", "a.y"))
        book = Book((("forbid", ("a",), ("b",), "direct"), ("forbid", ("c",), ("d",), "chain")))
        self.assertEqual(fewest_moves(program, book, ("d",)), (("a.y", "d"), ("c.z", "d")))
        self.assertEqual(fewest_moves(program, book, ("d",)), all_fewest(program, book, ("d",))[0])
        self.check(program, Book((*book.rules, ("only", ("d",), ()))), ("d",))

    def test_at_the_limits(self):
        names = [name * 2 for name in "abcdefghijklmnopqrstuvwx"]
        line = ["s." + names[0], "s." + names[1], *["p." + name for name in names[2:22]], "t." + names[22], "t." + names[23]]
        backward = [(user, used) for at, user in enumerate(line) for used in line[:at]]
        program = Program(tuple(line), (*zip(line, line[1:]), *random.Random(83).sample(backward, 177)))
        book = Book((("forbid", ("s",), ("t",), "chain"), ("apart", ("u.x", "v.x", "w.x"), "chain"), ("noring", ("u", "v", "w.x")),
                     ("forbid", ("t.x",), ("s.y",), "chain")))
        homes = ("w", "v", "s.x", "u")
        self.assertEqual(fewest_moves(program, book, homes), (("s.aa", "u"), ("s.bb", "u")))
        tree = move_tree(program, book, homes, 1)
        self.assertIs(move_tree_holds(program, book, homes, 1, tree), True)
        self.assertIs(move_tree_holds(program, book, homes, 0, tree), False)


class TestMoveTreeHolds(unittest.TestCase):

    PROGRAM = Program.of(("a.y", "b.x"), ("a.z", "b.w"), ("b.w", "a.y"))
    BOOK = Book((("noring", ("c", "d")), ("forbid", ("a",), ("b",), "direct"), ("forbid", ("a.z",), ("a.y", "b.x"), "chain")))
    HOMES = ("d", "a")

    def check_holds(self, number, value, program=PROGRAM, book=BOOK, homes=HOMES):
        expected = is_move_tree(program, book, homes, (), number, value)
        self.assertIs(move_tree_holds(program, book, homes, number, value), expected)
        return expected

    def test_trees_of_each_form(self):
        left = ("left", 1, (("a.y", "b.x"),))
        far = ("left", 2, (("a.z", "b.w"), ("b.w", "a.y")))
        self.assertEqual([self.check_holds(number, value) for value in (left, far) for number in (0, 1)],
                         [True, False, True, False])
        rest = ("left", 1, (("a.z", "b.w"),))
        whole = ("cases", 1, (("a.y", "b.x"),), (rest, rest, rest))
        self.assertEqual([self.check_holds(number, whole) for number in (0, 1)], [False, True])
        for trees in ((rest, rest), (rest,) * 4, (left, rest, rest), (rest, rest, left), [rest] * 3, rest, (), (whole,) * 3):
            self.assertIs(self.check_holds(1, ("cases", 1, (("a.y", "b.x"),), trees)), False)

    def test_the_order_of_the_trees(self):
        program = Program.of(("a.y", "b.x"))
        book = Book((("only", ("b", "a"), ()), ("only", ("d", "c"), ())))
        homes = ("d", "c")
        trees = [("left", index, (use,)) for index, use in ((0, ("d.y", "b.x")), (0, ("c.y", "b.x")), (1, ("a.y", "d.x")),
                                                            (1, ("a.y", "c.x")))]
        for row in itertools.permutations(trees):
            self.assertIs(self.check_holds(1, ("cases", 0, program.uses, row), program, book, homes), list(row) == trees)
        self.assertEqual(move_tree(program, book, homes, 1), ("cases", 0, program.uses, tuple(trees)))
        self.assertIs(self.check_holds(1, ("cases", 0, program.uses, tuple(trees)), program, book, homes[::-1]), False)

    def test_a_home_that_is_the_parent_has_no_tree(self):
        tree = move_tree(self.PROGRAM, self.BOOK, self.HOMES, 1)
        self.assertIs(self.check_holds(1, tree), True)
        self.assertIs(self.check_holds(1, tree, homes=("d", "c")), False)
        self.assertEqual(len(tree[3]), 3)

    def test_cases_without_trees(self):
        program = Program.of(("a.y", "a.x"))
        book = Book((("only", ("a.x",), ()),))
        value = ("cases", 0, (("a.y", "a.x"),), ())
        for homes in (("a",), ("a", "b"), ("b",)):
            self.assertEqual([self.check_holds(number, value, program, book, homes) for number in (0, 1)], [False, homes == ("a",)])

    def test_trees_that_are_changed_at_any_place(self):
        cases = [(self.PROGRAM, self.BOOK, self.HOMES), (P, B, ("tools",)), *some_cases(84, 12)]
        told = []
        for program, book, homes in cases:
            for number in (0, 1):
                tree = move_tree(program, book, homes, number)
                if tree is not None:
                    for value in replaced(tree):
                        told.extend(self.check_holds(other, value, program, book, homes) for other in (0, 1))
        self.assertGreater(told.count(True), 5)
        self.assertGreater(told.count(False), 500)

    def test_trees_for_other_programs(self):
        cases = [(self.PROGRAM, self.BOOK, self.HOMES), *some_cases(85, 12)]
        trees = [move_tree(*case, number) for case in cases for number in (0, 1)]
        for (program, book, homes), tree, number in itertools.product(cases, trees, (0, 1)):
            if self.check_holds(number, tree, program, book, homes):
                self.assertEqual([len(row) for row in all_fewest(program, book, homes) if len(row) <= number], [])

    def test_indexes_and_words(self):
        for index in (True, False, 1.0, "1", None, -1, -2, 0, 3, 10 ** 39):
            self.assertIs(self.check_holds(0, ("left", index, (("a.y", "b.x"),))), False)
        for word in ("cases", "Left", "", None, 0, ("left",)):
            self.assertIs(self.check_holds(0, (word, 1, (("a.y", "b.x"),))), False)
        self.assertIs(self.check_holds(0, ["left", 1, (("a.y", "b.x"),)]), False)
        self.assertIs(self.check_holds(0, ("left", 1, [("a.y", "b.x")])), False)
        self.assertIs(self.check_holds(0, ("left", 1, (("a.y", "b.x"),), ())), False)

    def test_any_values(self):
        for number in (0, 1):
            for value in any_values():
                for whole in (value, ("left", value, value), ("left", 1, value), ("cases", value, value, value),
                              ("cases", 1, (("a.y", "b.x"),), value), ("cases", 1, (("a.y", "b.x"),), (value,) * 3)):
                    self.assertIs(move_tree_holds(self.PROGRAM, self.BOOK, self.HOMES, number, whole), False)


class TestConventions(unittest.TestCase):

    def test_arguments_stay_as_they_are_and_equal_calls_return_equal_results(self):
        for program, book, homes in [(P, B, ("tools",)), *some_cases(86, 30)]:
            kept = copy.deepcopy((program.modules, program.uses, book.rules, homes))
            told = []
            for _ in range(2):
                trees = [move_tree(program, book, homes, number) for number in (0, 1)]
                told.append([trees, [move_tree_holds(program, book, homes, 1, copy.deepcopy(tree)) for tree in trees],
                             moved(program, ()), moved(program, ((program.modules[0], homes[0]),))])
                try:
                    told[-1].append(fewest_moves(program, book, homes))
                except TooMany:
                    told[-1].append(None)
            self.assertEqual(told[0], told[1])
            self.assertEqual((program.modules, program.uses, book.rules, homes), kept)


if __name__ == "__main__":
    unittest.main()
