"""Points 15 and 16: all programs, by mayrest.gaps; points 2 (b), (c) and 3, as far as they speak of it."""

import copy
import inspect
import itertools
import random
import unittest

from mayrest import gaps
from mayrest.books import Book
from mayrest.errors import TooMany
from mayrest.gaps import cell, find_gap, gap_holds, is_alike, lean, listed, needless
from mayrest.programs import Program
from tests.models import EMPTY, P, begins, pairs_of
from tests.rulings import CELL_RULES, CELLS, RULES, gap_programs, is_broken
from tests.samples import any_values

B = Book((("layers", (("app.ui",), ("app.core",), ("app.db",)), "chain"), ("forbid", ("lib",), ("app",), "direct"),
          ("noring", ("app", "lib"))))
D, C = Book((("forbid", ("a",), ("b",), "direct"),)), Book((("forbid", ("a",), ("b",), "chain"),))
NONE = Book(())
SIX = ("noring", tuple("abcdef"))
SEVEN = ("only", tuple("abcdef"), ("g",))


def book_of(*rules):
    """The book of these rules."""
    return Book(tuple(rules))


class Broken:
    """Many programs, and which of them break a rule, as point 12 says it."""

    def __init__(self):
        modules = [*[module for both in CELLS[:4] for module in both], CELLS[4][0]]
        rows = [uses for many in range(3) for uses in itertools.combinations(pairs_of(modules), many)]
        self.programs = sorted([Program.of(*uses) for uses in rows], key=len) + gap_programs()
        self.known = {}

    def by(self, rule):
        """The indexes of the programs that break the rule."""
        if rule not in self.known:
            self.known[rule] = {at for at, program in enumerate(self.programs) if is_broken(program, rule)}
        return self.known[rule]

    def by_any(self, rules):
        """The indexes of the programs that break one of the rules."""
        return set().union(*[self.by(rule) for rule in rules])

    def fewest(self, rules, others):
        """The fewest uses of those programs that keep the rules and break one of the others, or None."""
        found = self.by_any(others) - self.by_any(rules)
        return min([len(self.programs[at]) for at in found], default=None)


BROKEN = Broken()


class TestInterface(unittest.TestCase):

    def test_each_function_is_defined_in_this_file_with_its_arguments(self):
        for name, parameters in (("listed", ("book",)), ("cell", ("book", "path")), ("find_gap", ("one", "other")),
                                 ("gap_holds", ("one", "other", "value")), ("needless", ("book",)), ("lean", ("book",)),
                                 ("is_alike", ("one", "other"))):
            function = getattr(gaps, name)
            self.assertEqual(function.__module__, "mayrest.gaps")
            self.assertEqual(tuple(inspect.signature(function).parameters), parameters)

    def test_the_examples_of_point_15(self):
        told = [listed(B), cell(B, "app.ui.menu"), cell(B, "app.api"), cell(B, "tools")]
        self.assertEqual(repr(told), "[('app', 'app.core', 'app.db', 'app.ui', 'lib'), 'app.ui', 'app', None]")
        told = [find_gap(C, D), len(find_gap(D, C)), C.implies(D), D.implies(C),
                gap_holds(D, C, Program.of(("a.x", "c"), ("c", "b")))]
        self.assertEqual(repr(told), "[None, 2, True, False, True]")

    def test_the_example_of_point_16(self):
        told = [needless(D & C), lean(D & C) == C, is_alike(D & C, C),
                needless(Book((("apart", ("a", "b"), "direct"), ("noring", ("a", "b")))))]
        self.assertEqual(repr(told), "[(0,), True, True, (1,)]")


class TestListedAndCell(unittest.TestCase):

    def test_listed_paths_of_each_kind(self):
        for rule, expected in (
                (("forbid", ("d", "b.c"), ("a",), "direct"), ("a", "b.c", "d")),
                (("layers", (("d", "a"), ("c.x",), ("b",)), "chain"), ("a", "b", "c.x", "d")),
                (("stairs", (("b", "a"), ("c",))), ("a", "b", "c")),
                (("apart", ("z", "y.x"), "chain"), ("y.x", "z")),
                (("only", ("b", "a"), ("c",)), ("a", "b", "c")),
                (("only", ("b", "a"), ()), ("a", "b")),
                (("face", "b", ("b.d", "b.c.e")), ("b", "b.c.e", "b.d")),
                (("face", "b", ()), ("b",)),
                (("noring", ("c", "a", "b")), ("a", "b", "c"))):
            with self.subTest(rule=rule):
                self.assertEqual(listed(book_of(rule)), expected)

    def test_listed_paths_of_several_rules(self):
        self.assertEqual(listed(NONE), ())
        book = book_of(("noring", ("b", "a")), ("face", "b", ("b.c",)), ("only", ("a.d",), ("b",)))
        self.assertEqual(listed(book), ("a", "a.d", "b", "b.c"))
        self.assertEqual(len(listed(Book(tuple(RULES[:8])))), len({path for rule in RULES[:8] for path in listed(book_of(rule))}))

    def test_cells_at_below_and_outside(self):
        book = book_of(("face", "a", ("a.b.c", "a.d")), ("only", ("a.b.c.e",), ("f",)), ("noring", ("a.b", "f")))
        for path, expected in (("a", "a"), ("a.b", "a.b"), ("a.b.c", "a.b.c"), ("a.b.c.e", "a.b.c.e"), ("a.d", "a.d"),
                               ("a.x", "a"), ("a.b.x.c", "a.b"), ("a.b.c.x", "a.b.c"), ("a.b.c.e.x.y", "a.b.c.e"),
                               ("a.b.c.ex", "a.b.c"), ("a.dd", "a"), ("aa", None), ("f.a.b", "f"), ("fa", None), ("b.c", None),
                               ("x", None)):
            with self.subTest(path=path):
                self.assertEqual(cell(book, path), expected)
                self.assertIsNone(cell(NONE, path))

    def test_cells_against_all_listed_paths(self):
        for rule in RULES:
            book = book_of(rule)
            for path in ("a", "a.a", "a.a.x", "a.b", "ab", "b", "b.a.a", "c", "c.a.a", "c.a.b.c", "c.b", "c.c", "d", "x.y", "q"):
                covering = [name for name in listed(book) if begins(name, path)]
                self.assertEqual(cell(book, path), max(covering, key=len) if covering else None)


class TestFindGap(unittest.TestCase):

    def check(self, rules, others):
        """What find_gap returns for two books of rules over the cells of CELLS."""
        one, other = Book(tuple(rules)), Book(tuple(others))
        fewest = BROKEN.fewest(rules, others)
        with self.subTest(one=rules, other=others):
            found = find_gap(one, other)
            self.assertIs(one.implies(other), fewest is None)
            if fewest is None:
                self.assertIsNone(found)
            else:
                self.assertIsInstance(found, Program)
                self.assertEqual(len(found), fewest)
                self.assertIs(gap_holds(one, other, found), True)
                self.assertFalse(any(is_broken(found, rule) for rule in rules))
                self.assertTrue(any(is_broken(found, rule) for rule in others))

    def test_each_rule_against_each_other_one(self):
        for one, other in itertools.product(CELL_RULES, repeat=2):
            self.check([one], [other])

    def test_many_books(self):
        rng = random.Random(51)
        for _ in range(600):
            self.check(rng.sample(CELL_RULES, rng.randint(0, 8)), rng.sample(CELL_RULES, rng.randint(0, 3)))

    def test_gaps_of_one_use_of_chains_of_rings_and_none(self):
        chains = book_of(("forbid", ("a",), ("c",), "chain"))
        ring = book_of(("noring", ("a", "b", "c")))
        pairs = [("noring", pair) for pair in itertools.combinations("abc", 2)]
        steps = [("only", (path,), (before,)) for before, path in zip("abcde", "bcdef")]
        for one, other, expected in (
                (NONE, chains, 1), (book_of(("forbid", ("a",), ("c",), "direct")), chains, 2),
                (book_of(("only", ("c",), ("b",)), ("only", ("b",), ())), chains, None),
                (book_of(("only", ("c",), ("b",)), ("forbid", ("a",), ("b",), "direct")), chains, 3),
                (Book(tuple(steps)), book_of(("forbid", ("a",), ("f",), "chain")), 5),
                (NONE, ring, 2), (Book(tuple(pairs)), ring, 3), (Book((*pairs, *ring.rules)), ring, None),
                (book_of(("apart", ("a", "b"), "direct")), book_of(("noring", ("a", "b"))), None),
                (book_of(("apart", ("a.x", "a.y", "b"), "chain")), ring, 2),
                (book_of(("noring", tuple("abcde"))), book_of(SIX), 2),
                (Book((*steps, ("only", ("a",), ("f",)))), book_of(SIX), 6),
                (Book((*steps, ("only", ("a",), ("f",)), ("noring", tuple("fbdace")))), book_of(SIX), None),
                (chains, chains, None), (chains, NONE, None), (NONE, NONE, None)):
            with self.subTest(one=one.rules, other=other.rules):
                found = find_gap(one, other)
                self.assertEqual(None if found is None else len(found), expected)
                if found is not None:
                    self.assertEqual((found in one, found in other), (True, False))

    def test_its_programs_hold_and_fewer_uses_do_not(self):
        rng = random.Random(52)
        for _ in range(150):
            one, other = [Book(tuple(rng.sample(CELL_RULES, rng.randint(1, 3)))) for _ in range(2)]
            found = find_gap(one, other)
            if found is not None:
                self.assertIs(gap_holds(one, other, found), True)
                for uses in itertools.combinations(found.uses, len(found) - 1):
                    self.assertIs(gap_holds(one, other, Program(found.modules, uses)), False)

    def test_a_gap_needs_no_program_with_many_modules(self):
        names = ("a.b.c.d", "e.f.g.h", "i.j.k.l", "m.n.o.p", "q.r.s.t", "u.v.w.x")
        found = find_gap(book_of(("apart", names, "direct")), book_of(("apart", names, "chain")))
        self.assertEqual(len(found), 2)
        found = find_gap(book_of(*[("only", (path,), (user,)) for user, path in zip(names, names[1:])]),
                         book_of(("forbid", names[:1], names[-1:], "chain")))
        self.assertEqual(len(found), 5)
        self.assertIsNone(find_gap(book_of(("noring", names)), book_of(("noring", names[1:]))))


class TestGapHolds(unittest.TestCase):

    def test_programs(self):
        for one, other in itertools.product((D, C, NONE, book_of(("noring", ("a", "b")))), repeat=2):
            for program in (EMPTY, P, Program.of(("a", "b")), Program.of(("a", "c"), ("c", "b")), Program.of(("b", "a")),
                            Program.of(("a.x", "c"), ("c", "b.y"), ("b.z", "a.z"), ("d", "c"))):
                self.assertIs(gap_holds(one, other, program), program in one and program not in other)

    def test_more_uses_than_are_needed(self):
        program = Program.of(("a.x", "c"), ("c", "b"), ("b", "c"), ("d", "e"), ("e", "d"))
        self.assertIs(gap_holds(D, C, program), True)
        self.assertIs(gap_holds(D, C, program | Program.of(("a.x", "b"))), False)
        self.assertIs(gap_holds(C, D, program), False)

    def test_any_values(self):
        for value in any_values():
            if not isinstance(value, Program):
                self.assertIs(gap_holds(NONE, B, value), False)
        self.assertIs(gap_holds(NONE, D, (("a", "b"),)), False)

    def test_so_many_listed_paths_do_not_matter(self):
        self.assertIs(gap_holds(book_of(SIX), book_of(SEVEN), Program.of(("x", "a"))), True)


class TestManyListedPaths(unittest.TestCase):

    def check_too_many(self, call, *books):
        with self.assertRaises(TooMany) as caught:
            call(*books)
        self.assertEqual(caught.exception.limit, 6)

    def test_two_books(self):
        nested = book_of(("face", "a", ("a.b", "a.c", "a.d", "a.e", "a.f")))
        for one, other in ((book_of(SIX), book_of(SIX, ("apart", ("f", "a"), "chain"))), (NONE, book_of(SIX)),
                           (book_of(SIX), NONE), (nested, nested), (nested, book_of(("noring", ("a.b", "a.f")))),
                           (book_of(("noring", tuple("abcd"))), book_of(("noring", tuple("cdef"))))):
            for call in (find_gap, is_alike):
                call(one, other)
        for one, other in ((book_of(SEVEN), NONE), (NONE, book_of(SEVEN)), (book_of(SEVEN), book_of(SEVEN)),
                           (book_of(SIX), book_of(("apart", ("a", "g"), "direct"))),
                           (book_of(("apart", ("a", "g"), "direct")), book_of(SIX)),
                           (book_of(("noring", tuple("abcd"))), book_of(("noring", tuple("defg")))),
                           (nested, book_of(("only", ("b",), ())))):
            for call in (find_gap, is_alike):
                self.check_too_many(call, one, other)

    def test_one_book(self):
        for book in (book_of(SIX), book_of(SIX, ("apart", ("f", "a"), "chain")), NONE):
            needless(book)
            lean(book)
        for book in (book_of(SEVEN), book_of(SIX, ("apart", ("f", "g"), "chain")),
                     book_of(("apart", ("f", "g"), "chain"), SIX)):
            self.check_too_many(needless, book)
            self.check_too_many(lean, book)


class TestNeedless(unittest.TestCase):

    def keeps(self, rules, rule):
        """Whether the rules imply the rule, as far as many programs show it."""
        return BROKEN.by(rule) <= BROKEN.by_any(rules)

    def expected_lean(self, rules):
        left = list(rules)
        for rule in reversed(rules):
            others = [other for other in left if other != rule]
            if self.keeps(others, rule):
                left = others
        return tuple(left)

    def test_many_books(self):
        rng = random.Random(53)
        told = []
        for _ in range(400):
            rules = tuple(rng.sample(CELL_RULES, rng.randint(0, 8)))
            expected = tuple(at for at, rule in enumerate(rules)
                             if self.keeps([other for other in rules if other != rule], rule))
            with self.subTest(rules=rules):
                self.assertEqual(needless(Book(rules)), expected)
                self.assertEqual(lean(Book(rules)), Book(self.expected_lean(rules)))
                self.assertIs(is_alike(Book(rules), lean(Book(rules))), True)
                self.assertEqual(needless(lean(Book(rules))), ())
            told.append(len(expected))
        self.assertGreater(told.count(0), 20)
        self.assertGreater(len([many for many in told if many > 2]), 20)

    def test_rules_that_imply_each_other(self):
        one, other = ("noring", ("a", "b")), ("noring", ("b", "a"))
        self.assertEqual(needless(book_of(one, other)), (0, 1))
        self.assertEqual([lean(book_of(one, other)), lean(book_of(other, one))], [book_of(one), book_of(other)])
        third = ("only", ("c",), ("a",))
        self.assertEqual(needless(book_of(one, third, other)), (0, 2))
        self.assertEqual(lean(book_of(one, third, other)), book_of(one, third))
        self.assertEqual(lean(book_of(other, third, one)), book_of(other, third))

    def test_a_rule_that_the_others_imply_together(self):
        rules = (("only", ("b",), ("c",)), ("forbid", ("a",), ("c",), "chain"), ("forbid", ("a",), ("b",), "chain"))
        self.assertEqual(needless(Book(rules)), (2,))
        self.assertEqual(lean(Book(rules)), Book(rules[:2]))
        self.assertEqual(needless(Book(rules[::-1])), (0,))

    def test_rules_that_no_program_breaks(self):
        self.assertEqual([needless(NONE), lean(NONE)], [(), NONE])
        self.assertEqual([needless(book_of(SIX)), lean(book_of(SIX))], [(), book_of(SIX)])
        for rule in CELL_RULES:
            self.assertEqual([needless(book_of(rule)), lean(book_of(rule))], [(), book_of(rule)])


class TestIsAlike(unittest.TestCase):

    def test_books_that_say_the_same_otherwise(self):
        for one, other in (
                (("forbid", ("a",), ("b",), "direct"), ("only", ("b",), ("c",))),
                (("apart", ("a", "b"), "direct"), ("noring", ("a", "b"))),
                (("layers", (("a",), ("b",)), "direct"), ("forbid", ("a",), ("b",), "direct"))):
            self.assertIs(is_alike(book_of(one), book_of(other)), False)
        for one, other in (
                ((("layers", (("a",), ("b",)), "direct"),), (("stairs", (("a",), ("b",))),)),
                ((("layers", (("a",), ("b",)), "chain"),), (("forbid", ("b",), ("a",), "chain"),)),
                ((("layers", (("a", "b"), ("c",)), "chain"),),
                 (("apart", ("b", "a"), "chain"), ("forbid", ("c",), ("a", "b"), "chain"))),
                ((("apart", ("a", "b"), "direct"),), (("forbid", ("a",), ("b",), "direct"), ("forbid", ("b",), ("a",), "direct"))),
                ((("only", ("a",), ()),), (("face", "a", ()),)),
                ((("apart", ("a", "b"), "direct"), ("noring", ("a", "b"))), (("apart", ("b", "a"), "direct"),)),
                ((("noring", ("a", "b", "c")),), (("noring", ("c", "b", "a")),))):
            self.assertIs(is_alike(Book(one), Book(other)), True)
            self.assertIs(is_alike(Book(other), Book(one)), True)
        self.assertEqual([is_alike(NONE, NONE), is_alike(NONE, C), is_alike(C, NONE), is_alike(C, D)], [True, False, False, False])

    def test_many_books(self):
        rng = random.Random(54)
        alike = 0
        for _ in range(300):
            rules = rng.sample(CELL_RULES, rng.randint(1, 6))
            others = rng.sample(rules, len(rules) - rng.randint(0, min(2, len(rules) - 1)))
            expected = BROKEN.by_any(rules) == BROKEN.by_any(others)
            self.assertIs(is_alike(Book(tuple(rules)), Book(tuple(others))), expected)
            alike += expected
        self.assertGreater(min(alike, 300 - alike), 50)


class TestConventions(unittest.TestCase):

    def test_books_stay_as_they_are_and_equal_calls_return_equal_results(self):
        rng = random.Random(55)
        for _ in range(40):
            one, other = [Book(tuple(rng.sample(CELL_RULES, rng.randint(0, 5)))) for _ in range(2)]
            kept = copy.deepcopy((one.rules, other.rules))
            told = [[listed(one), cell(one, "a.c.x"), find_gap(one, other), needless(one), lean(one), is_alike(one, other),
                     gap_holds(one, other, P)] for _ in range(2)]
            self.assertEqual(told[0], told[1])
            self.assertEqual((one.rules, other.rules), kept)


if __name__ == "__main__":
    unittest.main()
