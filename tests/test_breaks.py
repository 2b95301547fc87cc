"""Points 12 and 13: what breaks a rule, by mayrest.breaks; point 2 (a) and (b), and point 3, as far as they speak of it."""

import inspect
import itertools
import random
import unittest

from mayrest import breaks
from mayrest.breaks import break_holds, each_break, find_break
from mayrest.programs import Program
from tests.models import (CROWD, EMPTY, P, POOL, all_programs, begins, by_size, crowded, crowded_downwards, distances,
                          first_way, longest_ring, pairs_of, random_program, some_programs)
from tests.rulings import (RULES, each_expected, every_circle, every_evidence, first_over, is_barred, is_broken)
from tests.samples import any_values

SMALL = [*list(all_programs(("a.a", "b", "c.a")))[::3], *list(all_programs(("a.a", "a.b", "d")))[::5]]
SOME = [*SMALL, *some_programs(21, 60, 5, 9), *some_programs(22, 25, 8, 10), EMPTY]

# Rules of every kind about the parts of CROWD.
CROWD_RULES = [
    ("forbid", ("a.a", "a.b"), ("c",), "direct"),
    ("forbid", ("a",), ("c.h", "b"), "chain"),
    ("layers", (("a",), ("b.x",), ("c",)), "direct"),
    ("layers", (("c.a", "c.b"), ("a",), ("b",)), "chain"),
    ("stairs", (("a",), ("b",), ("c",))),
    ("apart", ("a.a", "a.b", "b.x.a", "b.x.b", "c.a", "c.b"), "direct"),
    ("apart", ("a.a", "a.b", "b.x.a", "b.x.b", "c.a", "c.b"), "chain"),
    ("only", ("b.x.a", "c"), ("b.x.b", "a.a")),
    ("face", "b", ("b.x.a", "b.x.c", "b.x.h")),
    ("noring", ("a", "b.x", "c")),
    ("noring", ("a.a", "a.b", "b.x.a", "b.x.b", "c.a", "c.b")),
]


def direct(*evidence):
    """A use alone as evidence."""
    return (evidence,)


class TestInterface(unittest.TestCase):

    def test_each_function_is_defined_in_this_file_with_its_arguments(self):
        for name, parameters in (("find_break", ("program", "rule")), ("break_holds", ("program", "rule", "value")),
                                 ("each_break", ("program", "rule"))):
            function = getattr(breaks, name)
            self.assertEqual(function.__module__, "mayrest.breaks")
            self.assertEqual(tuple(inspect.signature(function).parameters), parameters)

    def test_each_break_is_a_generator(self):
        self.assertIs(inspect.isgeneratorfunction(each_break), True)
        for rule in RULES:
            self.assertIs(inspect.isgenerator(each_break(P, rule)), True)

    def test_the_examples_of_point_13(self):
        told = [find_break(P, ("forbid", ("lib",), ("app.db",), "direct")),
                find_break(P, ("forbid", ("lib",), ("app.db",), "chain"))]
        self.assertEqual(repr(told), "[None, (('lib.net', 'app.core'), ('app.core', 'app.db'))]")
        told = [find_break(P, ("noring", ("app", "lib"))), find_break(P, ("only", ("app.core",), ("app.ui",))),
                find_break(P, ("face", "app", ("app.core",)))]
        self.assertEqual(repr(told), "[(('app.db', 'lib.log'), ('lib.net', 'app.core')), (('lib.net', 'app.core'),), None]")
        told = list(each_break(P, ("stairs", (("app.ui", "lib.net"), ("app.db",), ("app.core",)))))
        self.assertEqual(repr(told), "[(('app.core', 'app.db'),), (('app.ui', 'app.core'),), (('lib.net', 'app.core'),)]")


class TestAgainstAllEvidence(unittest.TestCase):

    def test_find_break_and_each_break(self):
        for program, rule in itertools.product(SOME, RULES):
            with self.subTest(program=program.uses, rule=rule):
                expected = every_evidence(program, rule)
                self.assertEqual(find_break(program, rule), expected[0] if expected else None)
                self.assertEqual(list(each_break(program, rule)), each_expected(program, rule))
                self.assertIs(find_break(program, rule) is not None, is_broken(program, rule))

    def test_break_holds_for_all_evidence(self):
        for program, rule in itertools.product(SOME[::3], RULES):
            for evidence in every_evidence(program, rule):
                self.assertIs(break_holds(program, rule, evidence), True)

    def test_break_holds_for_all_short_tuples_of_uses(self):
        rng = random.Random(23)
        for rule in RULES:
            for program in [*SMALL[::6], random_program(rng, POOL[:6], 7), random_program(rng, POOL[2:], 7)]:
                expected = every_evidence(program, rule)
                others = [pair for pair in pairs_of(program.modules) if pair not in program][:1]
                for many in range(4):
                    for value in itertools.product([*program.uses, *others], repeat=many):
                        self.assertIs(break_holds(program, rule, value), value in expected)


class TestKinds(unittest.TestCase):

    def check(self, rule, barred, modules):
        """Which uses between the modules the rule bars, each alone in a program."""
        for use in pairs_of(modules):
            with self.subTest(rule=rule, use=use):
                program = Program(tuple(modules), (use,))
                expected = (use,) if use in barred else None
                self.assertEqual(find_break(program, rule), expected)
                self.assertEqual(list(each_break(program, rule)), [expected] if expected else [])
                self.assertIs(break_holds(program, rule, (use,)), use in barred)

    def test_forbid(self):
        for how in ("direct", "chain"):
            self.check(("forbid", ("a", "b.x"), ("c", "b.y"), how),
                       [("a.m", "c"), ("a.m", "b.y.n"), ("b.x", "c"), ("b.x", "b.y.n")],
                       ("a.m", "b.x", "b.y.n", "c", "d"))

    def test_layers(self):
        for how in ("direct", "chain"):
            self.check(("layers", (("a", "b"), ("c",), ("d",)), how),
                       [("a.m", "b"), ("a.n", "b"), ("b", "a.m"), ("b", "a.n"), ("c", "a.m"), ("c", "a.n"), ("c", "b"),
                        ("d", "a.m"), ("d", "a.n"), ("d", "b"), ("d", "c")],
                       ("a.m", "a.n", "b", "c", "d", "e"))

    def test_stairs(self):
        self.check(("stairs", (("a", "b"), ("c",), ("d",))),
                   [("a.m", "d"), ("a.n", "d"), ("b", "d"), ("c", "a.m"), ("c", "a.n"), ("c", "b"),
                    ("d", "a.m"), ("d", "a.n"), ("d", "b"), ("d", "c")],
                   ("a.m", "a.n", "b", "c", "d", "e"))

    def test_apart(self):
        for how in ("direct", "chain"):
            self.check(("apart", ("a", "b.x"), how), [("a.m", "b.x.n"), ("b.x.n", "a.m"), ("a.n", "b.x.n"),
                                                      ("b.x.n", "a.n")], ("a.m", "a.n", "b.x.n", "b.y", "c"))

    def test_only(self):
        self.check(("only", ("a", "b"), ("c", "d.x")),
                   [("b", "a.m"), ("b", "a.n"), ("a.m", "b"), ("a.n", "b"), ("d.y", "a.m"), ("d.y", "a.n"), ("d.y", "b")],
                   ("a.m", "a.n", "b", "c.k", "d.x", "d.y"))
        self.check(("only", ("a",), ()), [("b", "a.m"), ("b", "a.n")], ("a.m", "a.n", "b"))

    def test_face(self):
        self.check(("face", "a", ("a.x", "a.y.z")),
                   [("b", "a.y.w"), ("b", "a.m"), ("c.a", "a.y.w"), ("c.a", "a.m")],
                   ("a.x.k", "a.y.z", "a.y.w", "a.m", "b", "c.a"))
        self.check(("face", "a.b", ()), [("a.c", "a.b.d"), ("x", "a.b.d"), ("a.c", "a.b.e"), ("x", "a.b.e")],
                   ("a.b.d", "a.b.e", "a.c", "x"))

    def test_a_single_use_never_breaks_a_noring(self):
        self.check(("noring", ("a", "b", "c")), [], ("a.m", "a.n", "b", "c"))

    def test_direct_rules_do_not_see_chains(self):
        program = Program.of(("a.x", "m"), ("m", "b.x"))
        for rule in (("forbid", ("a",), ("b",), "direct"), ("layers", (("b",), ("a",)), "direct"),
                     ("apart", ("a", "b"), "direct"), ("stairs", (("b",), ("a",))), ("only", ("b",), ("m",)),
                     ("face", "b", ("b.x",)), ("noring", ("a", "b"))):
            self.assertIsNone(find_break(program, rule))
            self.assertEqual(list(each_break(program, rule)), [])
            self.assertIs(break_holds(program, rule, (("a.x", "m"), ("m", "b.x"))), False)

    def test_chains_may_pass_any_modules(self):
        program = Program.of(("a.x", "m"), ("m", "b.y"), ("b.y", "a.z"), ("a.z", "b.x"))
        for rule in (("forbid", ("a.x",), ("b.x",), "chain"), ("layers", (("b.x",), ("a.x",)), "chain"),
                     ("apart", ("b.x", "a.x"), "chain")):
            way = (("a.x", "m"), ("m", "b.y"), ("b.y", "a.z"), ("a.z", "b.x"))
            self.assertEqual(find_break(program, rule), way)
            self.assertEqual(list(each_break(program, rule)), [way])
            self.assertIs(break_holds(program, rule, way), True)
            for value in (way[1:], way[:-1], way[::-1], (*way, way[0]), list(way), way[:2] + way[3:], (way,)):
                self.assertIs(break_holds(program, rule, value), False)

    def test_chains_below_and_above_in_layers(self):
        program = Program.of(("a.y", "b"), ("b", "c"))
        self.assertIsNone(find_break(program, ("layers", (("a",), ("b",), ("c",)), "chain")))
        more = program | Program.of(("c", "a.x"))
        self.assertEqual(find_break(more, ("layers", (("a",), ("b",), ("c",)), "chain")), direct("c", "a.x"))
        self.assertEqual(list(each_break(more, ("layers", (("a",), ("b",), ("c",)), "chain"))),
                         [(("b", "c"), ("c", "a.x")), direct("c", "a.x")])


class TestOrders(unittest.TestCase):

    def test_fewer_uses_come_first(self):
        program = Program.of(("a.a", "m"), ("m", "b.a"), ("a.z", "b.z"))
        rule = ("forbid", ("a",), ("b",), "chain")
        self.assertEqual(find_break(program, rule), direct("a.z", "b.z"))
        self.assertEqual(list(each_break(program, rule)), [(("a.a", "m"), ("m", "b.a")), direct("a.z", "b.z")])

    def test_the_first_as_a_tuple_of_equally_many(self):
        program = Program.of(("a.b", "m"), ("m", "b.a"), ("a.a", "n"), ("n", "b.b"), ("a.a", "l"), ("l", "b.b"))
        rule = ("forbid", ("a",), ("b",), "chain")
        self.assertEqual(find_break(program, rule), (("a.a", "l"), ("l", "b.b")))
        self.assertEqual(list(each_break(program, rule)), [(("a.a", "l"), ("l", "b.b")), (("a.b", "m"), ("m", "b.a"))])

    def test_each_break_goes_by_the_pair_not_by_the_chain(self):
        program = Program.of(("a", "m"), ("m", "z"), ("z", "b"), ("m", "c"))
        rule = ("forbid", ("a",), ("b", "c"), "chain")
        self.assertEqual(list(each_break(program, rule)),
                         [(("a", "m"), ("m", "z"), ("z", "b")), (("a", "m"), ("m", "c"))])
        self.assertEqual(find_break(program, rule), (("a", "m"), ("m", "c")))

    def test_each_break_of_noring_goes_by_the_order_of_its_paths(self):
        program = Program.of(("a.x", "b.x"), ("b.y", "a.y"), ("c", "a.x"), ("b.x", "c"))
        for paths in itertools.permutations(("a", "b", "c")):
            found = list(each_break(program, ("noring", paths)))
            starts = {"a": (("a.x", "b.x"), ("b.y", "a.y")), "b": (("b.y", "a.y"), ("a.x", "b.x")),
                      "c": (("c", "a.x"), ("a.x", "b.x"), ("b.x", "c"))}
            self.assertEqual(found, [starts[path] for path in paths])
            self.assertEqual(find_break(program, ("noring", paths)), starts["a"])

    def test_noring_takes_the_first_uses(self):
        program = Program.of(("a.b", "b.b"), ("a.a", "b.z"), ("b.c", "a.c"), ("b.a", "a.z"), ("a.a", "c"), ("c", "a.a"))
        self.assertEqual(find_break(program, ("noring", ("b", "a"))), (("a.a", "b.z"), ("b.a", "a.z")))
        self.assertEqual(find_break(program, ("noring", ("c", "b", "a"))), (("a.a", "b.z"), ("b.a", "a.z")))
        self.assertEqual(find_break(program, ("noring", ("c", "a"))), (("a.a", "c"), ("c", "a.a")))


class TestWalks(unittest.TestCase):

    def test_a_walk_that_ends_early_and_one_that_begins_anew(self):
        for program, rules in [*[(program, RULES) for program in SOME[::6]], (crowded(1), CROWD_RULES)]:
            for rule in rules:
                whole = list(each_break(program, rule))
                for many in range(4):
                    walk = each_break(program, rule)
                    self.assertEqual(list(itertools.islice(walk, many)), whole[:many])
                    self.assertEqual(list(each_break(program, rule)), whole)
                    self.assertEqual(list(walk), whole[many:])
                    self.assertEqual(list(walk), [])

    def test_two_walks_at_once(self):
        rule = ("apart", ("a", "b.x", "c"), "chain")
        program = crowded(3)
        self.assertEqual([one for one, other in zip(each_break(program, rule), each_break(program, rule))
                          if one != other], [])


class TestNoring(unittest.TestCase):

    def around(self, many):
        """The paths of a rule, and evidence against it in which no two uses have a module in common."""
        paths = tuple("abcdef"[:many])
        return paths, tuple((path + ".x", other + ".y") for path, other in zip(paths, paths[1:] + paths[:1]))

    def test_two_to_six_paths(self):
        for many in range(2, 7):
            paths, evidence = self.around(many)
            program = Program.of(*evidence)
            rule = ("noring", paths)
            self.assertEqual(find_break(program, rule), evidence)
            self.assertEqual(list(each_break(program, rule)), [evidence[at:] + evidence[:at] for at in range(many)])
            for at in range(many):
                self.assertIs(break_holds(program, rule, evidence[at:] + evidence[:at]), True)
                self.assertIsNone(find_break(program - Program.of(evidence[at]), rule))
                if many > 2:
                    others = tuple(path for path in paths if path != paths[at])
                    self.assertIsNone(find_break(program, ("noring", others)))
            if many > 2:
                self.assertIs(break_holds(program, rule, evidence[::-1]), False)
                self.assertIs(break_holds(program, rule, evidence[1:]), False)

    def test_a_shorter_circle_within_a_longer_one(self):
        for many in range(3, 7):
            paths, evidence = self.around(many)
            program = Program.of(*evidence, ("b.z", "a.z"))
            short = (evidence[0], ("b.z", "a.z"))
            self.assertEqual(find_break(program, ("noring", paths)), short)
            found = list(each_break(program, ("noring", paths)))
            self.assertEqual([len(one) for one in found], [2, 2] + [many] * (many - 2))

    def test_paths_twice_are_no_evidence(self):
        evidence = (("a.x", "b.x"), ("b.y", "c.x"), ("c.y", "b.z"), ("b.z", "a.x"))
        program = Program.of(*evidence)
        rule = ("noring", ("a", "b", "c"))
        self.assertIs(break_holds(program, rule, evidence), False)
        self.assertIs(break_holds(program, rule, (evidence[0], evidence[3])), True)
        self.assertIs(break_holds(program, rule, (evidence[0], evidence[3]) * 2), False)
        self.assertIs(break_holds(program, rule, (evidence[1], evidence[2])), True)
        self.assertIs(break_holds(program, rule, (evidence[1],)), False)
        self.assertIs(break_holds(program, rule, ()), False)

    def test_uses_within_a_path_and_outside_of_all_paths(self):
        program = Program.of(("a.x", "a.y"), ("a.y", "a.x"), ("m", "n"), ("n", "m"), ("a.x", "m"), ("m", "b"), ("b", "m"),
                             ("m", "a.x"))
        rule = ("noring", ("a", "b"))
        self.assertIsNone(find_break(program, rule))
        self.assertEqual(list(each_break(program, rule)), [])
        for value in ((("a.x", "a.y"), ("a.y", "a.x")), (("m", "n"), ("n", "m")), (("a.x", "m"), ("m", "a.x"))):
            self.assertIs(break_holds(program, rule, value), False)

    def test_rings_of_modules_are_not_needed(self):
        program = Program.of(("a.x", "b.x"), ("b.y", "a.y"))
        self.assertEqual(find_break(program, ("noring", ("a", "b"))), (("a.x", "b.x"), ("b.y", "a.y")))
        self.assertIsNone(find_break(program, ("noring", ("a.x", "a.y", "b.x", "b.y"))))


class TestBreakHolds(unittest.TestCase):

    def test_any_values(self):
        program = Program.of(("app", "db"), ("db", "app"))
        for rule in (*RULES, ("noring", ("app", "db")), ("apart", ("app", "db"), "chain"), ("only", ("db",), ())):
            for value in any_values():
                for each in (program, P, EMPTY, crowded(1)):
                    self.assertIs(break_holds(each, rule, value), False)
                if value != ("app", "db"):
                    for wrapped in ((value,), (value, value), (("app", "db"), value), (value, ("db", "app"))):
                        self.assertIs(break_holds(program, rule, wrapped), False)

    def test_each_condition_alone_for_single_uses(self):
        program = Program.of(("a", "b"), ("a", "c"), ("b", "a"))
        for rule in (("forbid", ("a",), ("b",), "direct"), ("layers", (("b",), ("a",)), "direct"),
                     ("stairs", (("b",), ("a",))), ("only", ("b",), ("c",)), ("face", "b", ())):
            self.assertIs(break_holds(program, rule, direct("a", "b")), True)
            for value in (("a", "b"), [("a", "b")], (["a", "b"],), direct("b", "a"), direct("a", "c"), direct("c", "b"),
                          direct("a", "b") * 2, direct("a", "b") + direct("b", "a"), (("a", "b", "b"),), (("a",),),
                          (("a", "b"), ("b", "c"))):
                self.assertIs(break_holds(program, rule, value), False)

    def test_chains_that_come_back(self):
        program = Program.of(("a.x", "m"), ("m", "n"), ("n", "m"), ("m", "b"), ("b", "a.x"), ("a.x", "b"))
        rule = ("apart", ("a", "b"), "chain")
        for value, expected in (((("a.x", "m"), ("m", "b")), True), ((("a.x", "b"),), True), ((("b", "a.x"),), True),
                                ((("a.x", "m"), ("m", "n"), ("n", "m"), ("m", "b")), False),
                                ((("a.x", "b"), ("b", "a.x")), False), ((("a.x", "m"), ("n", "m")), False),
                                ((("b", "a.x"), ("a.x", "m")), False), ((("a.x", "m"), ("a.x", "b")), False),
                                ((("a.x", "b"), ("b", "a.x"), ("a.x", "b")), False)):
            self.assertIs(break_holds(program, rule, value), expected)


class TestGuarantees(unittest.TestCase):

    def test_a_program_with_fewer_uses_breaks_no_rule_that_the_larger_one_keeps(self):
        rng = random.Random(24)
        for program, rules in [*[(program, RULES) for program in SOME[::2]], (crowded(2), CROWD_RULES),
                               (crowded_downwards(), CROWD_RULES)]:
            smaller = Program(program.modules, tuple(rng.sample(program.uses, rng.randint(0, len(program)))))
            for rule in rules:
                if find_break(program, rule) is None:
                    self.assertIsNone(find_break(smaller, rule))
                for evidence in each_break(smaller, rule):
                    self.assertIs(break_holds(program, rule, evidence), True)

    def test_programs_and_rules_stay_as_they_are(self):
        for program, rule in itertools.product(SOME[::9], RULES):
            told, kept = (program.modules, program.uses), repr(rule)
            value = find_break(program, rule)
            self.assertEqual(value, find_break(Program(program.modules[::-1], program.uses[::-1]), rule))
            self.assertEqual(break_holds(program, rule, value), value is not None)
            self.assertEqual(list(each_break(program, rule)), list(each_break(program, rule)))
            self.assertEqual(((program.modules, program.uses), repr(rule)), (told, kept))


class TestAtTheLimits(unittest.TestCase):

    def test_programs_with_all_modules_and_uses(self):
        for program in (crowded(1), crowded(2), crowded_downwards(), longest_ring()):
            steps = distances(program)
            for rule in CROWD_RULES:
                if rule[0] == "noring":
                    continue
                if rule[-1] == "chain":
                    ways = [first_way(program, steps, *pair) for pair in pairs_of(CROWD)
                            if pair in steps and is_barred(rule, *pair)]
                    expected = [tuple(zip(way, way[1:])) for way in ways]
                else:
                    expected = [(use,) for use in program.uses if is_barred(rule, *use)]
                with self.subTest(program=program.uses[:3], rule=rule):
                    self.assertEqual(list(each_break(program, rule)), expected)
                    self.assertEqual(find_break(program, rule), by_size(expected)[0] if expected else None)
                    for evidence in expected:
                        self.assertIs(break_holds(program, rule, evidence), True)

    def test_noring_with_all_modules_and_uses(self):
        three = ("noring", ("a", "b.x", "c"))
        for program in (crowded(1), crowded(2)):
            found = list(each_break(program, three))
            pairs = {(user, used): (first_over(three[1], user), first_over(three[1], used)) for user, used in program.uses}
            for path, evidence in zip(three[1], found, strict=True):
                self.assertIs(break_holds(program, three, evidence), True)
                firsts = [use for use in program.uses if begins(path, use[0]) and not begins(path, use[1])]
                other = pairs[firsts[0]][1]
                back = [use for use in program.uses if pairs[use] == (other, path)]
                self.assertEqual(evidence, (firsts[0], back[0]))
            self.assertEqual(find_break(program, three), min(found))
        six = ("noring", ("a.a", "a.b", "b.x.a", "b.x.b", "c.a", "c.b"))
        for seed in range(6):
            expected = by_size(every_circle(crowded(seed), six[1]))
            self.assertEqual(find_break(crowded(seed), six), expected[0] if expected else None)
            self.assertEqual(list(each_break(crowded(seed), six)), each_expected(crowded(seed), six))
        for rule in (three, six):
            self.assertIsNone(find_break(crowded_downwards(), rule))
        self.assertEqual(find_break(longest_ring(), three), (("a.h", "b.x.a"), ("b.x.h", "c.a"), ("c.h", "a.a")))


if __name__ == "__main__":
    unittest.main()
