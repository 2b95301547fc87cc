"""Points 17 and 18: the fewest cuts, by mayrest.cuts; points 2 (b), (e) and 3, as far as they speak of it."""

import copy
import inspect
import itertools
import random
import unittest

from mayrest import cuts
from mayrest.books import Book
from mayrest.cuts import cut_tree, cut_tree_holds, fewest_cuts
from mayrest.errors import TooMany
from mayrest.programs import Program
from tests.models import (CROWD, EMPTY, P, R, crowded, crowded_downwards, longest_ring, pairs_of, random_program,
                          some_programs)
from tests.rulings import EIGHT, RULES, every_evidence, is_broken
from tests.samples import any_values, replaced

B = Book((("layers", (("app.ui",), ("app.core",), ("app.db",)), "chain"), ("forbid", ("lib",), ("app",), "direct"),
          ("noring", ("app", "lib"))))
NONE = Book(())
TREE = ("apart", ((0, (("app.db", "app.ui"),)), (1, (("lib.net", "app.core"),))))

# Two ways from a to d, of which one has two uses, and a ring.
DIAMOND = Program.of(("a", "b"), ("b", "d"), ("a", "c"), ("c", "d"), ("d", "a"))
ENDS = Book((("noring", ("b", "c")), ("forbid", ("a",), ("d",), "chain"), ("only", ("a",), ("b",))))

# Rings of three modules in which each two uses side by side are evidence: two of the three uses have to go.
RINGS = Program.of(*[pair for ring in ("abc", "def") for pair in zip(ring, ring[1:] + ring[:1])])
BACK = Book(tuple(("forbid", (user,), (used,), "chain") for user, used in ("ac", "ba", "cb", "df", "ed", "fe")))


def without(program, uses):
    """The program without these uses."""
    return Program(program.modules, tuple(use for use in program.uses if use not in uses))


def all_fewest(program, book, most):
    """All tuples of the fewest uses without which a small program keeps the book, or none if more are needed."""
    for many in range(most + 1):
        found = [uses for uses in itertools.combinations(program.uses, many)
                 if not any(is_broken(without(program, uses), rule) for rule in book.rules)]
        if found:
            return found
    return []


def is_evidence(program, book, index, evidence):
    """Whether two values are the index of a rule and evidence against it in a small program."""
    if index is True or index is False or not isinstance(index, int) or not 0 <= index < len(book.rules):
        return False
    return evidence in every_evidence(program, book.rules[index])


def is_cut_tree(program, book, number, value):
    """Whether a value is a cut tree for a small program, as point 18 says it."""
    if not isinstance(value, tuple) or len(value) not in (2, 4):
        return False
    if len(value) == 2:
        word, breaks = value
        if word != "apart" or not isinstance(breaks, tuple) or len(breaks) != number + 1:
            return False
        if not all(isinstance(pair, tuple) and len(pair) == 2 and is_evidence(program, book, *pair) for pair in breaks):
            return False
        uses = [use for _, evidence in breaks for use in evidence]
        return len(set(uses)) == len(uses)
    word, index, evidence, trees = value
    if word != "cases" or number == 0 or not is_evidence(program, book, index, evidence):
        return False
    return (isinstance(trees, tuple) and len(trees) == len(evidence)
            and all(is_cut_tree(without(program, [use]), book, number - 1, tree) for use, tree in zip(evidence, trees)))


def some_books(seed, many):
    """So many books over the modules of the pool."""
    rng = random.Random(seed)
    return [Book(tuple(rng.sample(RULES, rng.randint(1, 4)))) for _ in range(many)]


class Checks(unittest.TestCase):

    def check_too_many(self, limit, *args, **more):
        with self.assertRaises(TooMany) as caught:
            fewest_cuts(*args, **more)
        self.assertEqual(caught.exception.limit, limit)

    def check(self, program, book):
        """What fewest_cuts and cut_tree return for a small program."""
        with self.subTest(program=program.uses, rules=book.rules):
            expected = all_fewest(program, book, 4)
            needed = len(expected[0]) if expected else 5
            for most in range(5):
                if needed <= most:
                    self.assertEqual(fewest_cuts(program, book, most=most), expected[0])
                else:
                    self.check_too_many(most, program, book, most=most)
            if expected:
                self.assertEqual(fewest_cuts(program, book), min(expected))
                self.assertEqual(expected[0], min(expected))
            else:
                self.check_too_many(4, program, book)
            for number in range(4):
                tree = cut_tree(program, book, number)
                self.assertIs(tree is None, needed <= number)
                if tree is not None:
                    self.assertIs(is_cut_tree(program, book, number, tree), True)
                    self.assertIs(cut_tree_holds(program, book, number, tree), True)
        return needed


class TestInterface(unittest.TestCase):

    def test_each_function_is_defined_in_this_file_with_its_arguments(self):
        for name, parameters in (("fewest_cuts", "(program, book, *, most=4)"), ("cut_tree", "(program, book, number)"),
                                 ("cut_tree_holds", "(program, book, number, value)")):
            function = getattr(cuts, name)
            self.assertEqual(function.__module__, "mayrest.cuts")
            self.assertEqual(str(inspect.signature(function)), parameters)

    def test_the_examples_of_point_18(self):
        told = [fewest_cuts(P, B), fewest_cuts(R, B), cut_tree(P, B, 1)]
        self.assertEqual(repr(told), "[(('lib.net', 'app.core'),), (('app.db', 'app.ui'), ('lib.net', 'app.core')), None]")
        self.assertIs(cut_tree_holds(R, B, 1, TREE), True)


class TestAgainstAllSetsOfUses(Checks):

    def test_small_programs(self):
        needed = []
        for program, book in zip(some_programs(61, 220, 6, 9), some_books(61, 220)):
            needed.append(self.check(program, book))
        for program, book in zip(some_programs(62, 60, 8, 12), some_books(62, 60)):
            needed.append(self.check(program, book))
        for many in range(6):
            self.assertGreater(needed.count(many), 5)

    def test_rules_about_chains_and_rings(self):
        rules = [rule for rule in RULES if rule[-1] == "chain" or rule[0] == "noring"]
        rng = random.Random(63)
        for program in some_programs(63, 150, 7, 11):
            self.check(program, Book(tuple(rng.sample(rules, rng.randint(1, 3)))))

    def test_evidence_that_shares_uses(self):
        self.assertEqual(self.check(RINGS, BACK), 4)
        self.assertEqual(self.check(Program.of(*RINGS.uses[:3]), BACK), 2)
        self.assertEqual(self.check(RINGS | Program.of(("a", "d"), ("f", "c")), BACK), 4)
        # No more than two breaks, and one, can be found without common uses.
        for number in (2, 3):
            self.assertEqual(cut_tree(RINGS, BACK, number)[0], "cases")
        self.assertEqual(cut_tree(Program.of(*RINGS.uses[:3]), BACK, 1)[0], "cases")
        self.assertEqual([cut_tree(RINGS, BACK, number)[0] for number in (0, 1)], ["apart", "apart"])

    def test_rings_of_uses_and_backward_rules(self):
        rng = random.Random(67)
        for _ in range(60):
            names = rng.sample("abcdefg", 6)
            uses = [*zip(names, names[1:]), (names[5], names[0]), *rng.sample(pairs_of(names), 4)]
            pairs = rng.sample(pairs_of(names), 6)
            self.check(Program.of(*dict.fromkeys(uses)), Book(tuple(("forbid", (user,), (used,), "chain") for user, used in pairs)))

    def test_eight_rules(self):
        for program in some_programs(64, 40, 8, 10):
            self.check(program, Book(EIGHT))

    def test_programs_that_keep_the_book(self):
        for program, book in ((EMPTY, B), (P, NONE), (P, Book(())), (Program(CROWD, ()), Book(EIGHT))):
            for most in range(5):
                self.assertEqual(fewest_cuts(program, book, most=most), ())
            for number in range(4):
                self.assertIsNone(cut_tree(program, book, number))

    def test_layers_of_chains(self):
        # Each of the last two modules can be cut off by itself, or two uses between two layers be cut.
        layers = [("a.a", "a.b"), ("b",), ("c.a", "c.b"), ("d",), ("c.c.a", "c.c.b")]
        uses = [pair for upper, lower in zip(layers, layers[1:]) for pair in itertools.product(upper, lower)]
        program = Program.of(*uses)
        for how in ("direct", "chain"):
            self.check(program, Book((("forbid", ("a",), ("c.c",), how), ("forbid", ("b",), ("d",), how))))


class TestFewestCuts(Checks):

    def test_the_first_of_several_tuples(self):
        self.assertEqual(fewest_cuts(DIAMOND, ENDS), (("a", "b"), ("a", "c"), ("d", "a")))
        book = Book((("forbid", ("a",), ("e",), "chain"),))
        line = Program.of(("a", "d"), ("d", "c"), ("c", "b"), ("b", "e"))
        self.assertEqual(fewest_cuts(line, book), (("a", "d"),))
        line = Program.of(("z", "d"), ("d", "c"), ("c", "b"), ("b", "e"))
        self.assertEqual(fewest_cuts(line, Book((("forbid", ("z",), ("e",), "chain"),))), (("b", "e"),))
        both = Book((("forbid", ("z",), ("e",), "chain"), ("forbid", ("d",), ("c",), "chain")))
        self.assertEqual(fewest_cuts(line, both), (("d", "c"),))

    def test_the_fewest_and_not_the_first_of_all(self):
        book = Book((("apart", ("a", "b"), "chain"), ("apart", ("b", "c"), "chain")))
        program = Program.of(("a", "m"), ("c", "m"), ("m", "b"), ("n", "b"))
        self.assertEqual(fewest_cuts(program, book), (("m", "b"),))

    def test_each_value_of_most(self):
        uses = tuple(("a." + name, "b." + name) for name in "vwxyz")
        book = Book((("forbid", ("a",), ("b",), "direct"),))
        for many in range(6):
            program = Program.of(*uses[:many])
            for most in range(5):
                if many <= most:
                    self.assertEqual(fewest_cuts(program, book, most=most), uses[:many])
                else:
                    self.check_too_many(most, program, book, most=most)
        self.assertEqual(fewest_cuts(Program.of(*uses[:4]), book), uses[:4])
        self.check_too_many(4, Program.of(*uses), book)

    def test_at_the_limits(self):
        rules = (("noring", ("a", "b.x", "c")), ("forbid", ("a",), ("c",), "chain"), ("forbid", ("c",), ("a",), "chain"),
                 ("apart", ("a.a", "b.x.a", "c.h"), "chain"), ("only", ("b.x.a", "a.a"), ("b.x.b",)), ("face", "b", ()),
                 ("layers", (("a",), ("b",), ("c",)), "chain"), ("stairs", (("a",), ("b",), ("c",))))
        for program in (crowded(61), crowded_downwards()):
            self.check_too_many(4, program, Book(rules))
            for number in range(4):
                self.assertIs(cut_tree_holds(program, Book(rules), number, cut_tree(program, Book(rules), number)), True)
        ring = longest_ring()
        self.assertEqual(fewest_cuts(ring, Book(rules[1:2])), (("a.h", "b.x.a"),))
        self.assertEqual(fewest_cuts(ring, Book(rules[:1])), (("a.h", "b.x.a"),))
        self.assertEqual(fewest_cuts(ring, Book(rules[1:3])), (("a.h", "b.x.a"), ("c.h", "a.a")))

    def test_long_chains(self):
        # Two modules in each layer, and all uses from each layer to the next one: four uses have to be cut.
        layers = [(name + ".a", name + ".b") for name in "abcdefghijkl"]
        uses = [pair for upper, lower in zip(layers, layers[1:]) for pair in itertools.product(upper, lower)]
        backward = [pair for pair in pairs_of([name for layer in layers for name in layer]) if pair[0][0] > pair[1][0]]
        program = Program.of(*uses, *random.Random(64).sample(backward, 200 - len(uses)))
        book = Book((("forbid", ("a",), ("l",), "chain"), ("forbid", ("f",), ("g",), "direct")))
        self.assertEqual(fewest_cuts(program, book), tuple(pair for pair in itertools.product(*layers[5:7])))
        tree = cut_tree(program, book, 3)
        self.assertIs(cut_tree_holds(program, book, 3, tree), True)
        self.check_too_many(3, program, book, most=3)


class TestCutTreeHolds(Checks):

    def check_holds(self, program, book, number, value):
        self.assertIs(cut_tree_holds(program, book, number, value), is_cut_tree(program, book, number, value))

    def test_trees_of_each_form_for_each_number(self):
        leaf = ("apart", ((1, (("a", "b"), ("b", "d"))),))
        other = ("apart", ((1, (("a", "c"), ("c", "d"))),))
        back = ("apart", ((2, (("d", "a"),)),))
        two = ("apart", ((1, (("a", "b"), ("b", "d"))), (1, (("a", "c"), ("c", "d")))))
        three = ("apart", (*two[1], (2, (("d", "a"),))))
        cases = ("cases", 2, (("d", "a"),), (leaf,))
        deep = ("cases", 1, (("a", "b"), ("b", "d")), (("cases", 2, (("d", "a"),), (other,)), ("apart", (other[1][0], back[1][0]))))
        for number, trees in ((0, (leaf, other, back)), (1, (two, cases)), (2, (three, deep)), (3, ())):
            for value in (leaf, other, back, two, three, cases, deep):
                with self.subTest(number=number, value=value):
                    self.assertIs(cut_tree_holds(DIAMOND, ENDS, number, value), value in trees)
                    self.check_holds(DIAMOND, ENDS, number, value)

    def test_evidence_that_a_cut_has_taken_away(self):
        leaf = ("apart", ((1, (("a", "b"), ("b", "d"))),))
        other = ("apart", ((1, (("a", "c"), ("c", "d"))),))
        for trees, expected in (((other, other), True), ((leaf, other), False), ((other, leaf), False), ((other,), False),
                                ((other, other, other), False), ((), False)):
            value = ("cases", 1, (("a", "b"), ("b", "d")), trees)
            self.assertIs(cut_tree_holds(DIAMOND, ENDS, 1, value), expected)
        first, second = (("a", "b"), ("b", "d")), (("a", "c"), ("c", "d"))
        inner = ("cases", 1, second, (("apart", ((2, (("d", "a"),)),)),) * 2)
        again = ("cases", 1, first, (other,) * 2)
        for trees, expected in (((inner, inner), True), ((inner, again), False), ((again, inner), False), ((again, again), False)):
            self.assertIs(cut_tree_holds(DIAMOND, ENDS, 2, ("cases", 1, first, trees)), expected)
            self.check_holds(DIAMOND, ENDS, 2, ("cases", 1, first, trees))

    def test_cases_are_nothing_for_the_number_0(self):
        for trees in ((("apart", ()),), (("apart", ((1, (("lib.net", "app.core"),)),)),), ()):
            self.assertIs(cut_tree_holds(R, B, 0, ("cases", 0, (("app.db", "app.ui"),), trees)), False)
            self.check_holds(R, B, 1, ("cases", 0, (("app.db", "app.ui"),), trees))

    def test_breaks_that_share_a_use(self):
        program = Program.of(("a", "b"), ("b", "d"), ("b", "e"), ("d", "a"))
        book = Book((("forbid", ("a",), ("d", "e"), "chain"), ("forbid", ("a",), ("d",), "chain")))
        way, fork = (("a", "b"), ("b", "d")), (("a", "b"), ("b", "e"))
        for breaks in (((0, way), (0, fork)), ((0, way), (1, way)), ((0, way), (0, way))):
            self.assertIs(cut_tree_holds(program, book, 1, ("apart", breaks)), False)
        self.assertIs(cut_tree_holds(program, book, 1, ("apart", ((0, (("b", "d"),)), (0, way)))), False)

    def test_indexes(self):
        for index, expected in ((0, True), (1, False), (3, False), (-3, False), (False, False), (None, False), ("0", False),
                                (10 ** 39, False)):
            value = ("apart", ((index, (("app.db", "app.ui"),)), TREE[1][1]))
            self.assertIs(cut_tree_holds(R, B, 1, value), expected)
        self.assertIs(cut_tree_holds(R, B, 1, ("apart", (TREE[1][0], (True, TREE[1][1][1])))), False)
        value = ("cases", 1, (("lib.net", "app.core"),), (("apart", (TREE[1][0],)),))
        self.assertIs(cut_tree_holds(R, B, 1, value), True)
        self.assertIs(cut_tree_holds(R, B, 1, ("cases", True, *value[2:])), False)

    def test_trees_that_are_changed_at_any_place(self):
        program = Program.of(("a", "b"), ("b", "d"), ("a", "c"), ("c", "d"), ("d", "a"), ("b", "c"), ("c", "b"))
        for number in range(4):
            for tree in (cut_tree(program, ENDS, number), cut_tree(DIAMOND, ENDS, number), cut_tree(R, B, number),
                         cut_tree(RINGS, BACK, number) if number == 2 else None,
                         ("cases", 1, (("a", "b"), ("b", "d")), (("apart", ((1, (("a", "c"), ("c", "d"))),)),) * 2), TREE):
                if tree is None:
                    continue
                for value in replaced(tree):
                    with self.subTest(number=number, value=value):
                        for other, book in ((program, ENDS), (DIAMOND, ENDS), (R, B), (RINGS, BACK)):
                            self.check_holds(other, book, number, value)

    def test_trees_with_other_words(self):
        leaf = TREE[1]
        for value in (("cases", leaf), ("", leaf), ("Apart", leaf), (None, leaf), (leaf,), leaf, ("apart",), ("apart", *leaf),
                      ("apart", leaf, ()), ("apart", list(leaf)), ["apart", leaf], ("apart", (leaf[0], list(leaf[1])))):
            self.assertIs(cut_tree_holds(R, B, 1, value), False)

    def test_any_values(self):
        for number in range(4):
            for value in any_values():
                for whole in (value, ("apart", value), ("apart", (value,) * (number + 1)), ("apart", ((0, value),) * (number + 1)),
                              ("cases", value, value, value), ("cases", 0, (("app.db", "app.ui"),), value), (value, TREE[1]),
                              ("cases", 0, (("app.db", "app.ui"),), (value,))):
                    self.assertIs(cut_tree_holds(R, B, number, whole), False)
        self.assertIs(cut_tree_holds(EMPTY, NONE, 0, ("apart", ())), False)

    def test_whatever_it_accepts_shows_that_so_many_cuts_are_not_enough(self):
        rng = random.Random(65)
        for program, book in zip(some_programs(65, 80, 6, 9), some_books(65, 80)):
            needed = len((all_fewest(program, book, 4) or [(None,) * 5])[0])
            trees = [cut_tree(program, book, number) for number in range(4)]
            other = random_program(rng, program.modules, 9)
            trees.extend(cut_tree(other, book, number) for number in range(4))
            for number, tree in itertools.product(range(4), trees):
                self.check_holds(program, book, number, tree)
                if cut_tree_holds(program, book, number, tree):
                    self.assertGreater(needed, number)


class TestConventions(unittest.TestCase):

    def test_programs_and_values_stay_as_they_are_and_equal_calls_return_equal_results(self):
        for program, book in zip([R, DIAMOND, *some_programs(66, 20, 7, 9)], [B, ENDS, *some_books(66, 20)]):
            kept = copy.deepcopy((program.modules, program.uses, book.rules))
            for number in range(4):
                tree = cut_tree(program, book, number)
                self.assertEqual(cut_tree(program, book, number), tree)
                value = copy.deepcopy(tree)
                self.assertIs(cut_tree_holds(program, book, number, tree), tree is not None)
                self.assertIs(cut_tree_holds(program, book, number, value), tree is not None)
                self.assertEqual(value, tree)
            try:
                self.assertEqual(fewest_cuts(program, book), fewest_cuts(program, book))
            except TooMany:
                pass
            self.assertEqual((program.modules, program.uses, book.rules), kept)
        for _ in range(2):
            value = ["apart", [[0, [["app.db", "app.ui"]]]]]
            self.assertIs(cut_tree_holds(R, B, 0, value), False)
            self.assertEqual(value, ["apart", [[0, [["app.db", "app.ui"]]]]])


if __name__ == "__main__":
    unittest.main()
