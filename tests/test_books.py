"""Point 14: the books of mayrest.books; section 6 as far as implies asks for it; points 2 (a), (c) and 3 likewise."""

import copy
import inspect
import itertools
import random
import unittest

from mayrest.books import Book
from mayrest.bounds import MAX_RULES
from mayrest.breaks import find_break
from mayrest.errors import BadBook, RestError, TooMany
from mayrest.programs import Program
from mayrest.rules import rule_error
from tests.models import CROWD, EMPTY, P, crowded, crowded_downwards, longest_ring, pairs_of, some_programs
from tests.rulings import CELL_RULES, EIGHT, RULES, every_evidence, gap_programs, is_broken
from tests.samples import any_values

B = Book((("layers", (("app.ui",), ("app.core",), ("app.db",)), "chain"), ("forbid", ("lib",), ("app",), "direct"),
          ("noring", ("app", "lib"))))
NONE = Book(())
ONE, TWO, THREE, FOUR = [("noring", ("a", name)) for name in "bcde"]

# Eight rules about the parts of CROWD.
CROWD_RULES = (
    ("forbid", ("a",), ("c.h", "b"), "chain"),
    ("layers", (("a",), ("b.x",), ("c",)), "direct"),
    ("stairs", (("a",), ("b",), ("c",))),
    ("apart", ("a.a", "a.b", "b.x.a", "b.x.b", "c.a", "c.b"), "direct"),
    ("apart", ("a.a", "a.b", "b.x.a", "b.x.b", "c.a", "c.b"), "chain"),
    ("only", ("b.x.a", "c"), ("b.x.b", "a.a")),
    ("face", "b", ("b.x.a", "b.x.c", "b.x.h")),
    ("noring", ("a", "b.x", "c")),
)


class TestInterface(unittest.TestCase):

    def test_the_class_is_defined_in_this_file_with_its_methods(self):
        self.assertEqual((Book.__module__, Book.__name__), ("mayrest.books", "Book"))
        self.assertEqual(tuple(inspect.signature(Book).parameters), ("rules",))
        for name in ("rules", "implies", "__call__", "__len__", "__contains__", "__and__", "__sub__", "__eq__", "__str__"):
            self.assertIn(name, vars(Book))
        self.assertIsInstance(vars(Book)["rules"], property)

    def test_the_example_of_point_14(self):
        told = [B(P), P in B, P - Program.of(("lib.net", "app.core")) in B, str(B - Book((B.rules[0],)))]
        self.assertEqual(repr(told), "[((1, (('lib.net', 'app.core'),)), (2, (('app.db', 'lib.log'), "
                         "('lib.net', 'app.core')))), False, True, '2 rules']")

    def test_implies_in_the_example_of_point_15(self):
        direct, chains = Book((("forbid", ("a",), ("b",), "direct"),)), Book((("forbid", ("a",), ("b",), "chain"),))
        self.assertEqual(repr([chains.implies(direct), direct.implies(chains)]), "[True, False]")


class TestBadBook(unittest.TestCase):

    def check(self, rules, error):
        with self.subTest(rules=repr(rules)[:90]):
            before = repr(rules)
            for _ in range(2):
                with self.assertRaises(BadBook) as caught:
                    Book(rules)
                self.assertEqual(repr(caught.exception.error), repr(error))
                self.assertIsInstance(caught.exception, RestError)
            self.assertEqual(repr(rules), before)

    def test_no_tuple(self):
        for value in any_values():
            if not isinstance(value, tuple):
                self.check(value, (None, "rules"))
        self.check([ONE, TWO], (None, "rules"))
        self.check({ONE: TWO}, (None, "rules"))

    def test_so_many_rules(self):
        for many in range(MAX_RULES + 1):
            self.assertEqual(len(Book(EIGHT[:many])), many)
        self.check((*EIGHT, ONE), (None, "rules"))
        self.check((*EIGHT, EIGHT[0]), (None, "rules"))
        self.check((None,) * 9, (None, "rules"))
        self.check((None,) * 8, (0, "rule"))
        self.check((*EIGHT[:7], None), (7, "rule"))
        self.check((*EIGHT[:7], EIGHT[0]), (7, "again"))
        self.check((None,) * 2000, (None, "rules"))

    def test_what_is_no_rule(self):
        for value, word in ((None, "rule"), ("noring", "rule"), (list(ONE), "rule"), (("noring",), "rule"),
                            (("forbid", (), ("a",), "direct"), "sources"), (("forbid", ("a",), "b", "direct"), "targets"),
                            (("apart", ("a", "b"), "never"), "how"), (("stairs", (("a",),)), "rows"),
                            (("noring", ("a",)), "paths"), (("only", ("a",), None), "users"), (("face", "", ()), "path"),
                            (("face", "a", ("b",)), "exposed"), (("noring", ("a", "a.b")), "overlap")):
            self.assertEqual(rule_error(value), word)
            self.check((value,), (0, word))
            self.check((ONE, value, TWO), (1, word))
            self.check((ONE, TWO, value, None), (2, word))

    def test_rules_again(self):
        self.check((ONE, ONE), (1, "again"))
        self.check((ONE, TWO, THREE, TWO, ONE), (3, "again"))
        self.check((ONE, copy.deepcopy(ONE)), (1, "again"))

    def test_rules_that_say_the_same_are_not_equal(self):
        book = Book((("noring", ("a", "b")), ("noring", ("b", "a")), ("apart", ("a", "b"), "direct"),
                     ("apart", ("a", "b"), "chain"), ("only", ("a",), ()), ("face", "a", ())))
        self.assertEqual(len(book), 6)

    def test_the_first_rule_with_a_reason_stands(self):
        self.check((ONE, ONE, None), (1, "again"))
        self.check((ONE, None, ONE), (1, "rule"))
        self.check((None, None), (0, "rule"))
        self.check((("noring", ("a", "a")), ("noring", ("a", "a"))), (0, "overlap"))

    def test_any_tuples(self):
        for value in any_values():
            if value != ():
                self.check((ONE, value), (1, "rule"))


class TestBook(unittest.TestCase):

    def test_rules_len_and_str(self):
        for rules in ((), (ONE,), (TWO, ONE), EIGHT):
            book = Book(rules)
            self.assertEqual(book.rules, rules)
            self.assertEqual(len(book), len(rules))
            self.assertEqual(str(book), str(len(rules)) + " rules")
        self.assertEqual([str(NONE), str(Book((ONE,))), str(B)], ["0 rules", "1 rules", "3 rules"])

    def test_rules_can_only_be_read(self):
        book = Book((ONE,))
        with self.assertRaises(AttributeError):
            book.rules = ()
        self.assertEqual(book.rules, (ONE,))

    def test_equal_books(self):
        self.assertIs(Book((ONE, TWO)) == Book((ONE, TWO)), True)
        self.assertIs(Book((ONE, TWO)) != Book((ONE, TWO)), False)
        self.assertIs(NONE == Book(()), True)
        for other in (Book((TWO, ONE)), Book((ONE,)), NONE, Book((ONE, TWO, THREE)), Book((ONE, ("noring", ("c", "a"))))):
            self.assertIs(Book((ONE, TWO)) == other, False)
            self.assertIs(other == Book((ONE, TWO)), False)
            self.assertIs(Book((ONE, TWO)) != other, True)

    def test_a_book_equals_nothing_of_another_kind(self):
        for value in ((ONE, TWO), (), P, EMPTY, len(B), str(B), *any_values()):
            for book in (Book((ONE, TWO)), B) if isinstance(value, Book) else (Book((ONE, TWO)), NONE, B):
                self.assertIs(book == value, False)
                self.assertIs(value == book, False)

    def test_and(self):
        one, other = Book((ONE, TWO, THREE)), Book((FOUR, TWO, ("noring", ("c", "a"))))
        self.assertEqual((one & other).rules, (ONE, TWO, THREE, FOUR, ("noring", ("c", "a"))))
        self.assertEqual((other & one).rules, (FOUR, TWO, ("noring", ("c", "a")), ONE, THREE))
        self.assertEqual([one & one, one & NONE, NONE & one], [one, one, one])
        self.assertIsInstance(one & other, Book)
        self.assertEqual(one.rules, (ONE, TWO, THREE))

    def test_and_of_too_many_rules(self):
        self.assertEqual((Book(EIGHT[:5]) & Book(EIGHT[3:])).rules, EIGHT)
        self.assertEqual(Book(EIGHT) & Book(EIGHT[::-1]), Book(EIGHT))
        for one, other in ((Book(EIGHT), Book((TWO,))), (Book((TWO,)), Book(EIGHT)),
                           (Book((*EIGHT[:4], TWO)), Book(EIGHT[3:]))):
            with self.assertRaises(TooMany) as caught:
                one & other
            self.assertEqual(caught.exception.limit, 8)

    def test_minus(self):
        one = Book((ONE, TWO, THREE))
        self.assertEqual((one - Book((TWO, FOUR))).rules, (ONE, THREE))
        self.assertEqual([one - one, one - NONE, NONE - one], [NONE, one, NONE])
        self.assertEqual(Book(EIGHT) - Book(EIGHT[1::2]), Book(EIGHT[::2]))
        self.assertIsInstance(one - one, Book)

    def test_books_stay_as_they_are(self):
        rules = (ONE, TWO, *EIGHT[:3])
        kept = copy.deepcopy(rules)
        book, other = Book(rules), Book((TWO, FOUR))
        for _ in range(2):
            results = [book & other, book - other, book(P), P in book, book == other, len(book), str(book),
                       Book((ONE,)).implies(Book((TWO,)))]
            self.assertEqual(results, [book & other, book - other, book(P), P in book, book == other, len(book), str(book),
                                       Book((ONE,)).implies(Book((TWO,)))])
        with self.assertRaises(TooMany):
            book & Book(EIGHT)
        self.assertEqual((book.rules, rules, other.rules), (kept, kept, (TWO, FOUR)))


class TestFindings(unittest.TestCase):

    def check(self, book, program):
        """That the findings are the first evidence against each broken rule."""
        expected = []
        for index, rule in enumerate(book.rules):
            found = every_evidence(program, rule)
            if found:
                expected.append((index, found[0]))
        with self.subTest(rules=book.rules, program=program.uses):
            self.assertEqual(book(program), tuple(expected))
            self.assertIs(program in book, not expected)

    def test_books_and_programs(self):
        rng = random.Random(41)
        programs = [EMPTY, *some_programs(41, 60, 5, 8), *some_programs(42, 30, 7, 9)]
        for program in programs:
            self.check(Book(EIGHT), program)
            self.check(NONE, program)
            for _ in range(4):
                self.check(Book(tuple(rng.sample(RULES, rng.randint(1, 8)))), program)

    def test_no_rules_and_no_uses(self):
        for book in (NONE, B, Book(EIGHT), Book(CROWD_RULES)):
            for program in (EMPTY, Program(CROWD, ())):
                self.assertEqual((book(program), program in book), ((), True))
        for program in (P, crowded(1)):
            self.assertEqual((NONE(program), program in NONE), ((), True))

    def test_at_the_limits(self):
        book = Book(CROWD_RULES)
        for program in (crowded(1), crowded(2), crowded_downwards(), longest_ring()):
            findings = book(program)
            self.assertEqual(findings, tuple((index, find_break(program, rule)) for index, rule in enumerate(CROWD_RULES)
                                             if find_break(program, rule) is not None))
            self.assertIs(program in book, findings == ())
        self.assertEqual([index for index, _ in book(crowded(1))], [0, 1, 2, 3, 4, 5, 6, 7])
        self.assertEqual([index for index, _ in book(longest_ring())], [0, 1, 2, 3, 4, 5, 7])
        kept = Program(CROWD, tuple(pair for pair in pairs_of(CROWD) if pair[0][0] == pair[1][0]
                                    and not set(pair) & {"a.a", "a.b", "b.x.a", "b.x.b", "c.a", "c.b"}))
        self.assertEqual((book(kept), kept in book), ((), True))

    def test_in_is_false_for_what_is_no_program(self):
        for book in (NONE, B, Book(EIGHT)):
            for value in (B, NONE, P.uses, (P.modules, P.uses), *any_values()):
                if not isinstance(value, Program):
                    self.assertIs(value in book, False)
        self.assertIs(Program.of(("app", "db")) in NONE, True)
        self.assertIs(ONE in Book((ONE,)), False)

    def test_a_program_with_fewer_uses_keeps_what_the_larger_one_keeps(self):
        rng = random.Random(43)
        for program in [*some_programs(43, 80, 6, 10), crowded(1)]:
            smaller = Program(program.modules, tuple(rng.sample(program.uses, len(program) // 2)))
            for rules in (EIGHT, CROWD_RULES):
                self.assertLessEqual({index for index, _ in Book(rules)(smaller)}, {index for index, _ in Book(rules)(program)})


class TestImplies(unittest.TestCase):

    def test_each_two_rules_and_many_books_against_programs(self):
        programs = gap_programs()
        broken = {rule: {at for at, program in enumerate(programs) if is_broken(program, rule)} for rule in CELL_RULES}
        for one, other in itertools.product(CELL_RULES, repeat=2):
            with self.subTest(one=one, other=other):
                self.assertIs(Book((one,)).implies(Book((other,))), broken[other] <= broken[one])
        rng = random.Random(44)
        told = []
        for _ in range(1500):
            rules = rng.sample(CELL_RULES, rng.randint(1, 8))
            others = rng.sample(CELL_RULES, rng.randint(1, 3))
            expected = set().union(*[broken[rule] for rule in others]) <= set().union(*[broken[rule] for rule in rules])
            told.append(expected)
            with self.subTest(one=rules, other=others):
                self.assertIs(Book(tuple(rules)).implies(Book(tuple(others))), expected)
        self.assertGreater(min(told.count(True), told.count(False)), 100)

    def test_what_it_promises_holds_for_programs(self):
        rng = random.Random(45)
        programs = some_programs(45, 150, 5, 8)
        for _ in range(60):
            one, other = [Book(tuple(rng.sample(RULES, 1))) for _ in range(2)]
            try:
                implied = one.implies(other)
            except TooMany:
                continue
            for program in programs:
                if implied and program in one:
                    self.assertIs(program in other, True)

    def test_equal_books_fewer_rules_and_no_rules(self):
        for rule in CELL_RULES:
            book = Book((rule,))
            self.assertEqual([book.implies(book), book.implies(NONE), NONE.implies(book)], [True, True, False])
        self.assertIs(NONE.implies(NONE), True)
        whole = Book(tuple(CELL_RULES[:8]))
        self.assertIs(whole.implies(Book(tuple(CELL_RULES[2:5]))), True)
        self.assertIs(Book((ONE, TWO)).implies(Book((TWO, ONE))), True)
        self.assertIs(Book((ONE, TWO)).implies(Book((("noring", ("a", "b", "c")),))), False)

    def test_chains_over_all_cells(self):
        ends = Book((("forbid", ("a",), ("f",), "chain"),))
        steps = [("only", (path,), (before,)) for before, path in zip("abcde", "bcdef")]
        self.assertIs(Book(tuple(steps)).implies(ends), False)
        for before, path in zip("abcde", "bcdef"):
            self.assertIs(Book((*steps, ("forbid", (before,), (path,), "direct"))).implies(ends), True)
            self.assertIs(Book((*steps, ("forbid", (path,), (before,), "direct"))).implies(ends), False)
        # Here the chain has to pass a module that no listed path covers, on its way to b.
        outside = (*steps[1:], ("forbid", ("a",), ("b",), "direct"))
        self.assertIs(Book(outside).implies(ends), False)
        self.assertIs(Book((*outside, ("forbid", ("a",), ("b",), "chain"))).implies(ends), True)
        self.assertIs(Book((*outside, ("only", ("b",), ()))).implies(ends), True)

    def test_chains_that_close_a_circle(self):
        narrow = (("only", ("a.c",), ("b",)), ("only", ("b",), ("a",)))
        for how in ("direct", "chain"):
            ends = Book((("forbid", ("a.d",), ("a.c",), how),))
            self.assertIs(Book((*narrow, ("noring", ("a", "b")))).implies(ends), True)
            self.assertIs(Book(narrow).implies(ends), how == "direct")
            self.assertIs(Book((*narrow, ("noring", ("a.d", "b")))).implies(ends), how == "direct")

    def test_circles_over_all_listed_paths(self):
        six = ("noring", tuple("abcdef"))
        self.assertIs(Book((six,)).implies(Book((("noring", tuple("fedcba")),))), True)
        self.assertIs(Book((six,)).implies(Book((("noring", tuple("acd")),))), True)
        self.assertIs(Book((("noring", tuple("abcde")),)).implies(Book((six,))), False)
        pairs = [("noring", pair) for pair in itertools.combinations("abc", 2)]
        self.assertIs(Book(tuple(pairs)).implies(Book((("noring", ("a", "b", "c")),))), False)
        self.assertIs(Book((("layers", tuple((path,) for path in "abcde"), "direct"),)).implies(
            Book((("noring", tuple("caebd")),))), True)
        self.assertIs(Book((("layers", tuple((path,) for path in "abcde"), "direct"),)).implies(
            Book((("noring", tuple("caebdf")),))), False)

    def test_a_circle_that_needs_no_chain(self):
        chains = Book((("forbid", ("a.x",), ("a.y",), "chain"),))
        self.assertIs(chains.implies(Book((("noring", ("a", "b")),))), False)
        self.assertIs(Book((("apart", ("a", "b"), "direct"),)).implies(Book((("noring", ("a", "b")),))), True)

    def test_so_many_listed_paths(self):
        six, seven = ("noring", tuple("abcdef")), ("only", tuple("abcdef"), ("g",))
        fitting = [Book((six,)), Book((six, ("apart", ("f", "a"), "chain"))), NONE,
                   Book((("face", "a", ("a.b", "a.c", "a.d", "a.e", "a.f")),))]
        for book in fitting:
            book.implies(book)
            book.implies(NONE)
            NONE.implies(book)
        for one, other in ((Book((seven,)), NONE), (NONE, Book((seven,))), (Book((seven,)), Book((seven,))),
                           (Book((six,)), Book((("apart", ("a", "g"), "direct"),))),
                           (Book((("apart", ("a.c", "a.b"), "direct"),)), Book((six,))),
                           (Book((("face", "a", ("a.b", "a.c", "a.d", "a.e", "a.f")),)), Book((("only", ("b",), ()),))),
                           (Book(EIGHT), Book(EIGHT))):
            with self.assertRaises(TooMany) as caught:
                one.implies(other)
            self.assertEqual(caught.exception.limit, 6)

    def test_names_that_use_up_the_letters(self):
        paths = ("a.b.c.d", "e.f.g.h", "i.j.k.l", "m.n.o.p", "q.r.s.t", "u.v.w.x")
        direct, chains = Book((("apart", paths, "direct"),)), Book((("apart", paths, "chain"),))
        self.assertEqual([chains.implies(direct), direct.implies(chains), direct.implies(Book((("noring", paths),)))],
                         [True, False, True])
        others = ("z.y.x.w", "v.u.t.s", "r.q.p.o", "n.m.l.k", "j.i.h.g", "f.e.d.c")
        direct, chains = Book((("apart", others, "direct"),)), Book((("apart", others, "chain"),))
        self.assertEqual([chains.implies(direct), direct.implies(chains), Book((("noring", others),)).implies(direct)],
                         [True, False, False])

    def test_eight_rules_and_six_paths(self):
        rules = (("noring", tuple("abcdef")), ("layers", (("a",), ("b",), ("c",), ("d",), ("e", "f")), "chain"),
                 ("stairs", (("a",), ("b",), ("c",), ("d",), ("e",))), ("apart", ("e", "f"), "chain"), ("only", ("a",), ()),
                 ("face", "f", ()), ("forbid", ("f",), ("a", "b"), "chain"), ("forbid", ("a",), ("f",), "chain"))
        book = Book(rules)
        for at, rule in enumerate(rules):
            self.assertIs(book.implies(Book((rule,))), True)
            self.assertIs(Book((rule,)).implies(book), False)
        self.assertIs((book - Book(rules[:1])).implies(Book(rules[:1])), True)
        self.assertIs((book - Book(rules[4:5])).implies(Book(rules[4:5])), False)


if __name__ == "__main__":
    unittest.main()
