"""Point 11: the rules of mayrest.rules, and point 3 as far as it speaks of them."""

import inspect
import itertools
import unittest

from mayrest import rules
from mayrest.programs import Program
from mayrest.rules import rule_error
from tests.rulings import EIGHT, RULES
from tests.samples import any_values

FOUR, FIVE = "a.b.c.d", "a.b.c.d.e"
NO_RULE_PATHS = [FIVE, "a.b.c.d.e.f", "", "A", "a..b", "a.", "abcdefghi", None, 1, True, ("a",), ["a"], {"a": "a"}]
SEVEN = ("a", "b", "c", "d", "e", "f", "g")

# For each kind: a rule, and what does not fit at each of its places, from the left.
GOOD = {
    "forbid": ("forbid", ("a", "b"), ("c",), "direct"),
    "layers": ("layers", (("a", "b"), ("c",)), "chain"),
    "stairs": ("stairs", (("a",), ("b", "c"))),
    "apart": ("apart", ("a", "b", "c"), "direct"),
    "only": ("only", ("a", "b"), ("c",)),
    "face": ("face", "a", ("a.b", "a.c")),
    "noring": ("noring", ("a", "b", "c")),
}
NAMES = {
    "forbid": ("sources", "targets", "how"),
    "layers": ("rows", "how"),
    "stairs": ("rows",),
    "apart": ("paths", "how"),
    "only": ("targets", "users"),
    "face": ("path", "exposed"),
    "noring": ("paths",),
}


def no_paths(least):
    """Values that are no tuple of so many to six rule paths."""
    found = [None, "a", "abc", 0, True, ["a", "b"], {"a": "b"}, SEVEN, SEVEN * 3, (("a",), ("b",)), *SEVEN]
    found.extend(SEVEN[:many] for many in range(least))
    for value in NO_RULE_PATHS:
        found.extend([("x", value), (value, "x"), ("x", value, "y"), (value, value)])
    return found


def no_rows():
    """Values that are no tuple of rows."""
    found = [None, "ab", 3, False, {}, (), (("a",),), [("a",), ("b",)], (["a"], ["b"]), (("a",), ["b"]), ("a", "b"),
             (("a",), "b"), (("a",), ()), ((), ("b",)), ((), ()), (("a",), (), ("b",)), (("a",), None),
             tuple((name,) for name in SEVEN[:6]), tuple((name,) for name in SEVEN),
             (SEVEN[:5], ("x",)), (("x",), SEVEN[:5]), (("x",), ("y",), SEVEN[:5])]
    for value in NO_RULE_PATHS:
        found.extend([(("x",), (value,)), ((value,), ("x",)), (("x", "y", value), ("z",))])
    return found


BAD = {
    "sources": no_paths(1),
    "targets": no_paths(1),
    "users": no_paths(0),
    "paths": no_paths(2),
    "rows": no_rows(),
    "how": [None, "", "never", "Direct", "chain ", "chains", "directchain", True, 0, (), ("direct",), ["chain"],
            ("direct", "chain"), {"direct": "chain"}],
    "path": [*NO_RULE_PATHS, (), ("a", "b")],
    "exposed": [*no_paths(0), ("a",), ("a.b", "a"), ("b",), ("a.b", "b.c"), ("ab",), ("ab.c",), ("a.b", FIVE)],
}


class Checks(unittest.TestCase):

    def check(self, value, expected):
        with self.subTest(value=repr(value)[:90]):
            before = repr(value)
            self.assertEqual(rule_error(value), expected)
            self.assertEqual(rule_error(value), expected)
            self.assertEqual(repr(value), before)


class TestInterface(unittest.TestCase):

    def test_the_function_is_defined_in_this_file(self):
        self.assertEqual(rule_error.__module__, "mayrest.rules")
        self.assertEqual(tuple(inspect.signature(rules.rule_error).parameters), ("value",))

    def test_the_example_of_point_11(self):
        told = [rule_error(("forbid", ("app",), ("lib",), "direct")), rule_error(("forbid", ("app",), ("lib",))),
                rule_error(("layers", (("a",), ()), "chain")), rule_error(("apart", ("a", "a.b"), "never")),
                rule_error(("only", ("a",), ("a.b",)))]
        self.assertEqual(repr(told), "[None, 'rule', 'rows', 'how', 'overlap']")


class TestRules(Checks):

    def test_rules_of_every_kind(self):
        for rule in [*RULES, *EIGHT, *GOOD.values()]:
            self.check(rule, None)

    def test_both_words_for_how(self):
        for how in ("direct", "chain"):
            for rule in (("forbid", ("a",), ("b",), how), ("layers", (("a",), ("b",)), how), ("apart", ("a", "b"), how)):
                self.check(rule, None)

    def test_how_many_sources_and_targets(self):
        six = tuple("s" + name for name in SEVEN[:6])
        for many in range(0, 9):
            paths = tuple("xy"[at // 7] + name for at, name in enumerate([*SEVEN, *SEVEN]))[:many]
            fits = 1 <= many <= 6
            self.check(("forbid", paths, six, "direct"), None if fits else "sources")
            self.check(("forbid", six, paths, "chain"), None if fits else "targets")
            self.check(("only", paths, six), None if fits else "targets")
            self.check(("only", six, paths), None if many <= 6 else "users")
            self.check(("apart", paths, "chain"), None if 2 <= many <= 6 else "paths")
            self.check(("noring", paths), None if 2 <= many <= 6 else "paths")
            self.check(("face", "q", tuple("q." + path for path in paths)), None if many <= 6 else "exposed")

    def test_how_many_rows_and_paths_in_them(self):
        for many in range(0, 8):
            for size in range(0, 7):
                rows = tuple(tuple(SEVEN[at] + name for name in SEVEN[:size]) for at in range(many))
                expected = None if 2 <= many <= 5 and 1 <= size <= 4 else "rows"
                self.check(("layers", rows, "direct"), expected)
                self.check(("stairs", rows), expected)

    def test_how_many_names_in_paths(self):
        for path, fits in ((FOUR, True), (FIVE, False), ("a", True)):
            self.check(("forbid", (path,), ("x",), "direct"), None if fits else "sources")
            self.check(("forbid", ("x",), (path,), "direct"), None if fits else "targets")
            self.check(("layers", (("x",), (path,)), "direct"), None if fits else "rows")
            self.check(("stairs", ((path,), ("x",))), None if fits else "rows")
            self.check(("apart", ("x", path), "direct"), None if fits else "paths")
            self.check(("only", (path,), ()), None if fits else "targets")
            self.check(("only", ("x",), (path,)), None if fits else "users")
            self.check(("noring", ("x", path)), None if fits else "paths")
            self.check(("face", path, ()), None if fits else "path")
        self.check(("face", "a.b.c", (FOUR,)), None)
        self.check(("face", "a.b", (FIVE,)), "exposed")
        self.check(("face", FOUR, (FIVE,)), "exposed")


class TestWords(Checks):

    def test_no_tuple(self):
        for rule in GOOD.values():
            self.check(list(rule), "rule")
            self.check(rule[0], "rule")
            self.check({rule[0]: rule[1:]}, "rule")

    def test_another_first_word(self):
        for rule in GOOD.values():
            for word in ("", "Forbid", "rule", "face ", "forbids", None, 0, True, (), ("forbid",), ["forbid"], {}):
                self.check((word, *rule[1:]), "rule")
        self.check((), "rule")
        self.check((("forbid", ("a",), ("b",), "direct"),), "rule")

    def test_another_number_of_items(self):
        for word, rule in GOOD.items():
            for many in range(1, len(rule)):
                self.check(rule[:many], "rule")
            for extra in ("direct", None, (), ("x",)):
                self.check((*rule, extra), "rule")
            self.check((word,) * len(rule), NAMES[word][1 if word == "face" else 0])
            self.check((*rule, *rule), "rule")

    def test_the_words_do_not_stand_for_one_another(self):
        for word, other in itertools.permutations(GOOD, 2):
            if len(GOOD[word]) != len(GOOD[other]):
                self.check((word, *GOOD[other][1:]), "rule")
        self.check(("stairs", ("a", "b")), "rows")
        self.check(("noring", (("a",), ("b",))), "paths")
        self.check(("layers", ("a", "b"), "direct"), "rows")
        self.check(("apart", (("a",), ("b",)), "direct"), "paths")
        self.check(("face", ("a",), ()), "path")
        self.check(("only", "a", ("b",)), "targets")

    def test_each_item_alone(self):
        for word, names in NAMES.items():
            for at, name in enumerate(names):
                for item in BAD[name]:
                    value = list(GOOD[word])
                    value[at + 1] = item
                    self.check(tuple(value), name)

    def test_the_first_of_two_items(self):
        for word, names in NAMES.items():
            for first, second in itertools.combinations(range(len(names)), 2):
                for one, other in itertools.product(BAD[names[first]][::3], BAD[names[second]][::3]):
                    value = list(GOOD[word])
                    value[first + 1], value[second + 1] = one, other
                    self.check(tuple(value), names[first])

    def test_three_things_at_once(self):
        self.check(("forbid", (), (), "never"), "sources")
        self.check(("forbid", ("a", "a"), (), "never"), "targets")
        self.check(("forbid", ("a", "a"), ("a",), "never"), "how")
        self.check(("forbid", ("a", "a"), ("a",), "chain"), "overlap")
        self.check(("forbid", (), (), "never", None), "rule")
        self.check(("layers", (("a",), ("a",), ()), "never"), "rows")
        self.check(("layers", (("a",), ("a.b",)), "never"), "how")
        self.check(("apart", ("a", "a", FIVE), "never"), "paths")
        self.check(("only", ("a", "a"), ("a", "")), "users")
        self.check(("face", "", ("b", "b")), "path")
        self.check(("face", "a", ("a.b", "a.b", "c")), "exposed")

    def test_exposed_paths_that_the_path_does_not_cover(self):
        for path in ("b", "a", "ab", "ab.c", "b.a", "a.bc", "a.b"):
            self.check(("face", "a.b", ("a.b.c", path)), "exposed")
            self.check(("face", "a.b", (path, "a.b.c")), "exposed")
        self.check(("face", "a.b", ("a.b.c", "a.b.cd", "a.b.d.e")), None)


class TestOverlap(Checks):

    def test_equal_paths_and_paths_above_and_below(self):
        for one, other in (("a", "a"), ("a", "a.b"), ("a.b", "a"), ("a.b.c.d", "a.b"), ("a.b", "a.b")):
            for how in ("direct", "chain"):
                self.check(("forbid", ("x", one), ("y", other), how), "overlap")
                self.check(("forbid", (one, "x", other), ("y",), how), "overlap")
                self.check(("forbid", ("y",), ("x", one, other), how), "overlap")
                self.check(("layers", (("x", one), ("y",), ("z", other)), how), "overlap")
                self.check(("layers", (("x",), (one, "y", other)), how), "overlap")
                self.check(("apart", ("x", one, "y", other), how), "overlap")
            self.check(("stairs", (("x", one), ("y",), ("z", other))), "overlap")
            self.check(("stairs", (("x",), (one, "y", other))), "overlap")
            self.check(("only", ("x", one), ("y", other)), "overlap")
            self.check(("only", (one, "x", other), ()), "overlap")
            self.check(("only", ("x",), (one, other)), "overlap")
            self.check(("noring", (one, "x", other)), "overlap")
            self.check(("noring", ("x", other, one)), "overlap")

    def test_exposed_paths(self):
        self.check(("face", "a", ("a.b", "a.b")), "overlap")
        self.check(("face", "a", ("a.b", "a.c", "a.b.d")), "overlap")
        self.check(("face", "a", ("a.b.d", "a.b")), "overlap")
        self.check(("face", "a", ("a.b.d", "a.b.e", "a.bd")), None)

    def test_paths_that_begin_with_the_letters_of_others(self):
        for one, other in (("a", "ab"), ("a.b", "a.bc"), ("app", "apple"), ("a.b", "b"), ("b.a", "a")):
            self.check(("forbid", (one,), (other,), "direct"), None)
            self.check(("layers", ((one,), (other,)), "chain"), None)
            self.check(("stairs", ((other, one), ("z",))), None)
            self.check(("apart", (one, other), "direct"), None)
            self.check(("only", (one,), (other,)), None)
            self.check(("noring", (other, one)), None)


class TestAnyValue(Checks):

    def test_values_of_every_kind(self):
        for value in any_values():
            self.check(value, "rule")

    def test_values_of_every_kind_at_each_place(self):
        for word, names in NAMES.items():
            for at, name in enumerate(names):
                for item in any_values():
                    value = list(GOOD[word])
                    value[at + 1] = item
                    fits = isinstance(item, tuple) and item == () and name in ("users", "exposed")
                    fits = fits or isinstance(item, tuple) and item == ("app",) and name in ("sources", "targets", "users")
                    fits = fits or isinstance(item, tuple) and item == ("app", "db") and name in (
                        "sources", "targets", "users", "paths")
                    fits = fits or name == "path" and item in ("app", "app.db")
                    if name == "path" and fits:
                        self.check(tuple(value), "exposed")
                    elif fits:
                        self.check(tuple(value), None)
                    elif item == ("a", "p", "p") and name in ("sources", "targets", "users", "paths"):
                        self.check(tuple(value), "overlap")
                    else:
                        self.check(tuple(value), name)

    def test_results_of_the_package_in_the_place_of_a_part(self):
        program = Program.of(("app", "db"))
        self.check(("noring", ("app", program)), "paths")
        self.check((program, ("app", "db")), "rule")
        self.check(("stairs", (("app",), program)), "rows")
        self.check(("apart", ("app", "db"), program), "how")
        self.check(("face", program, ()), "path")

    def test_long_and_deep_tuples(self):
        self.check(("forbid",) * 2000, "rule")
        self.check(("noring", ("a",) * 2000), "paths")
        self.check(("stairs", (("a",) * 2000, ("b",))), "rows")


if __name__ == "__main__":
    unittest.main()
