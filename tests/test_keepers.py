"""Points 24 to 26: keepers, by mayrest.keepers; points 2 (g) and 3, as far as they speak of them."""

import copy
import inspect
import random
import unittest

from mayrest import errors
from mayrest.books import Book
from mayrest.keepers import AuditKeeper, Keeper, LoggedKeeper, StrictKeeper
from mayrest.programs import Program
from tests.models import CROWD, EMPTY, P, crowded, pairs_of, some_programs
from tests.plain import ARGUMENTS, PlainKeeper, plain_program
from tests.rulings import EIGHT, RULES
from tests.samples import any_values

B = Book((("layers", (("app.ui",), ("app.core",), ("app.db",)), "chain"), ("forbid", ("lib",), ("app",), "direct"),
          ("noring", ("app", "lib"))))
CLASSES = (Keeper, StrictKeeper, LoggedKeeper, AuditKeeper)
PORT = ("lib.net", "app.core")
STORE = ("app.db", "lib.log")


def fields(error):
    """The class of an error and its fields."""
    return (type(error), vars(error))


def told(keeper):
    """All that a keeper tells of itself, but for news."""
    return (keeper.program, keeper.book, keeper.allowances, keeper.version, keeper.findings, len(keeper), str(keeper),
            getattr(keeper, "log", None), getattr(keeper, "lenient", None))


class Checks(unittest.TestCase):

    def check_refused(self, keeper, call, expected):
        """That the call raises an error with the same fields, and changes nothing."""
        before, news = told(keeper), keeper.news
        for _ in range(2):
            with self.assertRaises(type(expected)) as caught:
                call()
            self.assertEqual(fields(caught.exception), fields(expected))
            self.assertEqual((told(keeper), keeper.news), (before, news))

    def check_state(self, keeper, program, rules, allowances):
        """What a keeper keeps, and that its findings are those of its book."""
        self.assertEqual((keeper.program, keeper.book, keeper.allowances), (program, Book(rules), allowances))
        allowed = Program(program.modules, tuple(use for use, _ in allowances))
        self.assertEqual(keeper.findings, Book(rules)(program - allowed))
        self.assertEqual(len(keeper), len(allowances))
        self.assertEqual(str(keeper), f"{keeper.version} edits, {len(keeper.findings)} findings")


class TestInterface(Checks):

    def test_the_classes_are_defined_in_this_file_with_their_methods(self):
        for cls, bases, signature in (
                (Keeper, (object,), "(program, *, rules=())"),
                (StrictKeeper, (Keeper,), "(program, *, rules=(), lenient=False)"),
                (LoggedKeeper, (Keeper,), "(program, *, rules=())"),
                (AuditKeeper, (LoggedKeeper, StrictKeeper), "(program, *, rules=(), lenient=False)")):
            self.assertEqual((cls.__module__, cls.__bases__), ("mayrest.keepers", bases))
            self.assertEqual(str(inspect.signature(cls)), signature)
        for name, arguments in {**ARGUMENTS, "undo": 0, "run": 1, "twin": 0}.items():
            self.assertEqual(len(inspect.signature(vars(Keeper)[name]).parameters), arguments + 1)
        for name in ("program", "book", "allowances", "version", "findings", "news"):
            self.assertIsInstance(vars(Keeper)[name], property)
            self.assertIsNone(vars(Keeper)[name].fset)
        for name in ("__getitem__", "__setitem__", "__contains__", "__len__", "__eq__", "__str__"):
            self.assertIn(name, vars(Keeper))
        self.assertIsInstance(vars(Keeper)["is_edit"], classmethod)
        self.assertIsNotNone(vars(StrictKeeper)["lenient"].fset)
        self.assertIsNone(vars(LoggedKeeper)["log"].fset)

    def test_the_arguments_of_the_editing_methods(self):
        for name, parameters in (("add_module", ["path"]), ("drop_module", ["path"]), ("add_use", ["user", "used"]),
                                 ("cut_use", ["user", "used"]), ("rename", ["path", "new"]), ("merge", ["path", "other"]),
                                 ("add_rule", ["rule"]), ("drop_rule", ["index"]), ("allow", ["use", "reason"]),
                                 ("withdraw", ["use"]), ("run", ["edits"]), ("undo", []), ("twin", [])):
            self.assertEqual(list(inspect.signature(vars(Keeper)[name]).parameters)[1:], parameters)

    def test_the_examples_of_point_26(self):
        keeper = Keeper(P, rules=B.rules)
        seen = [len(keeper.findings), keeper.allow(PORT, "until the port"), keeper.findings, keeper.news == ((), B.rules[1:]),
                keeper[PORT]]
        self.assertEqual(repr(seen), "[2, 1, (), True, 'until the port']")
        seen = [keeper.rename("app", "main"), keeper.allowances, keeper.undo(), str(keeper)]
        self.assertEqual(repr(seen), "[2, ((('lib.net', 'main.core'), 'until the port'),), 1, '1 edits, 0 findings']")


class TestBeginning(Checks):

    def test_the_four_classes(self):
        for cls in CLASSES:
            keeper = cls(P, rules=B.rules)
            self.check_state(keeper, P, B.rules, ())
            self.assertEqual((keeper.version, keeper.news, len(keeper.findings)), (0, ((), ()), 2))
            self.check_state(cls(EMPTY), EMPTY, (), ())
            self.assertEqual(str(cls(EMPTY)), "0 edits, 0 findings")
            self.check_refused(keeper, keeper.undo, errors.NothingToUndo())
        for cls in (StrictKeeper, AuditKeeper):
            for lenient in (True, False):
                self.assertIs(cls(P, rules=B.rules, lenient=lenient).lenient, lenient)
            self.assertIs(cls(P).lenient, False)
        for cls in (LoggedKeeper, AuditKeeper):
            self.assertEqual(cls(P, rules=B.rules).log, ())

    def test_wrong_rules(self):
        for cls in CLASSES:
            for rules, error in ((None, (None, "rules")), (list(B.rules), (None, "rules")), ((*EIGHT, B.rules[0]), (None, "rules")),
                                 ((B.rules[0], None), (1, "rule")), ((B.rules[0], B.rules[0]), (1, "again")),
                                 ((("noring", ("a", "a.b")),), (0, "overlap")), (B, (None, "rules"))):
                with self.assertRaises(errors.BadBook) as caught:
                    cls(P, rules=rules)
                self.assertEqual(caught.exception.error, error)
            for value in any_values():
                if value != ():
                    with self.assertRaises(errors.BadBook):
                        cls(P, rules=value)

    def test_what_can_only_be_read(self):
        for cls in CLASSES:
            keeper = cls(P, rules=B.rules)
            for name in ("program", "book", "allowances", "version", "findings", "news", *(["log"] if hasattr(keeper, "log") else [])):
                before = told(keeper)
                with self.assertRaises(AttributeError):
                    setattr(keeper, name, None)
                self.assertEqual(told(keeper), before)


class TestModulesAndUses(Checks):

    def keeper(self, cls=Keeper):
        return cls(P, rules=B.rules)

    def test_add_module(self):
        for cls in (Keeper, LoggedKeeper, AuditKeeper):
            keeper = self.keeper(cls)
            self.assertEqual([keeper.add_module("web"), keeper.add_module("app.a.b")], [1, 2])
            self.check_state(keeper, Program((*P.modules, "web", "app.a.b"), P.uses), B.rules, ())

    def test_add_module_refused(self):
        keeper = self.keeper()
        for path in ("", "a.", "a..b", "A", "abcdefghi", "a.b.c.d.e.f.g", *[value for value in any_values() if not isinstance(value, str)]):
            self.check_refused(keeper, lambda: keeper.add_module(path), errors.BadPath(path))
        for path in ("app", "app.db", "app.db.x", "lib"):
            self.check_refused(keeper, lambda: keeper.add_module(path), errors.Clash(path))
        full = Keeper(Program(CROWD, ()))
        self.check_refused(full, lambda: full.add_module("d"), errors.TooMany(24))
        self.check_refused(full, lambda: full.add_module("a"), errors.Clash("a"))
        self.check_refused(full, lambda: full.add_module("a!"), errors.BadPath("a!"))
        full.drop_module("a.a")
        self.assertEqual(full.add_module("d"), 2)
        self.check_refused(full, lambda: full.add_module("a.a"), errors.TooMany(24))

    def test_drop_module(self):
        keeper = Keeper(Program(("a", "b", "c"), (("a", "b"),)))
        for path in ("a", "b"):
            self.check_refused(keeper, lambda: keeper.drop_module(path), errors.InUse(path))
        self.assertEqual(keeper.drop_module("c"), 1)
        self.check_state(keeper, Program.of(("a", "b")), (), ())
        for path in ("c", "d", "", *any_values()):
            self.check_refused(keeper, lambda: keeper.drop_module(path), errors.NoModule(path))
        keeper.cut_use("a", "b")
        self.assertEqual([keeper.drop_module("a"), keeper.drop_module("b"), keeper.program], [3, 4, EMPTY])
        other = self.keeper()
        self.check_refused(other, lambda: other.drop_module("app"), errors.NoModule("app"))

    def test_add_use(self):
        keeper = self.keeper()
        self.assertEqual(keeper.add_use("app.ui", "app.db"), 1)
        self.assertEqual(keeper.add_use("app.db", "app.ui"), 2)
        self.check_state(keeper, P | Program.of(("app.ui", "app.db"), ("app.db", "app.ui")), B.rules, ())

    def test_add_use_refused(self):
        keeper = self.keeper()
        for user, used, error in (
                ("app", "lib", errors.NoModule("app")), ("app", "app.db", errors.NoModule("app")),
                ("app.db", "app", errors.NoModule("app")), ("x", "x", errors.NoModule("x")), (None, [], errors.NoModule(None)),
                ("app.db", "app.db", errors.Itself("app.db")), ("app.db", "lib.log", errors.Taken(STORE))):
            self.check_refused(keeper, lambda: keeper.add_use(user, used), error)
        for value in [value for value in any_values() if value != "app.db"]:
            self.check_refused(keeper, lambda: keeper.add_use(value, "lib.log"), errors.NoModule(value))
            self.check_refused(keeper, lambda: keeper.add_use("lib.log", value), errors.NoModule(value))
        full = Keeper(crowded(91))
        free = [pair for pair in pairs_of(CROWD) if pair not in full.program][0]
        self.check_refused(full, lambda: full.add_use(*free), errors.TooMany(200))
        self.check_refused(full, lambda: full.add_use(*full.program.uses[0]), errors.Taken(full.program.uses[0]))
        self.check_refused(full, lambda: full.add_use(free[0], free[0]), errors.Itself(free[0]))
        full.cut_use(*full.program.uses[0])
        self.assertEqual(full.add_use(*free), 2)

    def test_cut_use(self):
        keeper = self.keeper()
        keeper.allow(PORT, "a")
        keeper.allow(STORE, "b")
        self.assertEqual(keeper.cut_use(*PORT), 3)
        self.check_state(keeper, P - Program.of(PORT), B.rules, ((STORE, "b"),))
        self.assertEqual(keeper.cut_use("app.ui", "app.core"), 4)
        self.assertEqual(keeper.allowances, ((STORE, "b"),))
        for user, used in (PORT, ("app.db", "app.core"), ("x", "y"), ("app.db", "app.db"), (None, []), ({}, "lib.log")):
            self.check_refused(keeper, lambda: keeper.cut_use(user, used), errors.NoUse((user, used)))
        for value in any_values():
            self.check_refused(keeper, lambda: keeper.cut_use(value, value), errors.NoUse((value, value)))
        keeper.add_use(*PORT)
        self.assertEqual(keeper.allowances, ((STORE, "b"),))


class TestRename(Checks):

    def test_parts_and_modules(self):
        keeper = Keeper(P, rules=B.rules)
        self.assertEqual(keeper.rename("app", "main.x"), 1)
        expected = Program.of(("main.x.core", "main.x.db"), ("main.x.db", "lib.log"), ("main.x.ui", "main.x.core"),
                              ("lib.net", "main.x.core"))
        self.check_state(keeper, expected, B.rules, ())
        self.assertEqual(keeper.rename("main.x", "main"), 2)
        self.assertEqual(keeper.rename("lib.net", "net"), 3)
        self.assertEqual(keeper.program.modules, ("lib.log", "main.core", "main.db", "main.ui", "net"))
        self.assertEqual(keeper.rename("net", "net"), 4)
        self.assertEqual(keeper.rename("main", "main.main"), 5)
        self.assertEqual(keeper.rename("main.main", "lib.main"), 6)
        self.assertEqual(keeper.program.modules, ("lib.log", "lib.main.core", "lib.main.db", "lib.main.ui", "net"))

    def test_allowances_go_with_their_uses(self):
        keeper = Keeper(P, rules=B.rules)
        keeper.allow(PORT, "first")
        keeper.allow(STORE, "second")
        keeper.rename("app", "zoo")
        self.assertEqual(keeper.allowances, ((("lib.net", "zoo.core"), "first"), (("zoo.db", "lib.log"), "second")))
        keeper.rename("lib.net", "zz")
        self.assertEqual(keeper.allowances, ((("zoo.db", "lib.log"), "second"), (("zz", "zoo.core"), "first")))
        self.assertEqual([keeper[("zz", "zoo.core")], PORT in keeper], ["first", False])

    def test_letters_in_common(self):
        keeper = Keeper(Program.of(("ap", "app.x"), ("apple", "app.ap")))
        keeper.rename("app", "b")
        self.assertEqual(keeper.program, Program.of(("ap", "b.x"), ("apple", "b.ap")))
        keeper.rename("ap", "a")
        self.assertEqual(keeper.program, Program.of(("a", "b.x"), ("apple", "b.ap")))

    def test_refused(self):
        keeper = Keeper(Program(("a.b.c", "a.b.d.e", "f.g", "h"), (("a.b.c", "f.g"),)))
        for path in ("x", "a.b.c.d", "ab", "", "a.", "A", "f.g.", *any_values()):
            self.check_refused(keeper, lambda: keeper.rename(path, "z"), errors.NoPart(path))
            self.check_refused(keeper, lambda: keeper.rename(path, None), errors.NoPart(path))
        for new in ("", "x.", "x.1", "a.b.c.d.e.f.g", *[value for value in any_values() if value not in ("app", "app.db", "db")]):
            if not (isinstance(new, str) and set(new) == {"a"} and len(new) < 9):
                self.check_refused(keeper, lambda: keeper.rename("a", new), errors.BadPath(new))
        for path, new, error in (
                ("a", "x.x.x.x", errors.BadPath("x.x.x.x.b.d.e")), ("a", "x.x.x.x.x", errors.BadPath("x.x.x.x.x.b.c")),
                ("a.b", "x.x.x.x.x.x", errors.BadPath("x.x.x.x.x.x.c")), ("a", "f.g.x.x", errors.BadPath("f.g.x.x.b.d.e")),
                ("a.b", "f.g", errors.Clash("f.g.c")), ("a.b.c", "f", errors.Clash("f")), ("a.b.c", "f.g", errors.Clash("f.g")),
                ("f", "a.b", None), ("f.g", "a.b", errors.Clash("a.b")), ("f", "h", errors.Clash("h.g")), ("a", "h", errors.Clash("h.b.c")),
                ("h", "a.b.d.e.f", errors.Clash("a.b.d.e.f")), ("a.b.c", "a.b", errors.Clash("a.b")), ("a.b", "a", None)):
            if error is not None:
                self.check_refused(keeper, lambda: keeper.rename(path, new), error)
            else:
                self.assertEqual([keeper.rename(path, new), keeper.undo()], [1, 0])

    def test_the_first_new_path(self):
        keeper = Keeper(Program(("a.b.b", "a.c", "a.d", "x.d", "x.c"), ()))
        self.check_refused(keeper, lambda: keeper.rename("a", "x"), errors.Clash("x.c"))
        keeper = Keeper(Program(("a.z.c.d", "a.b.c.d", "a.c", "x.x.x.c"), ()))
        self.check_refused(keeper, lambda: keeper.rename("a", "x.x.x.x"), errors.BadPath("x.x.x.x.b.c.d"))
        self.check_refused(keeper, lambda: keeper.rename("a", "x.x.x"), errors.Clash("x.x.x.c"))


class TestMerge(Checks):

    def test_uses(self):
        program = Program.of(("a", "c"), ("b", "c"), ("d", "b"), ("d", "a"), ("b", "e"), ("f", "b"), ("a", "b"), ("b", "a"))
        keeper = Keeper(program)
        self.assertEqual(keeper.merge("a", "b"), 1)
        self.check_state(keeper, Program.of(("a", "c"), ("d", "a"), ("a", "e"), ("f", "a")), (), ())
        self.assertEqual([keeper.undo(), keeper.merge("b", "a")], [0, 1])
        self.check_state(keeper, Program.of(("b", "c"), ("d", "b"), ("b", "e"), ("f", "b")), (), ())

    def test_allowances(self):
        program = Program.of(("a", "c"), ("b", "c"), ("d", "b"), ("d", "a"), ("b", "e"), ("f", "b"), ("a", "b"), ("g", "c"))
        keeper = Keeper(program)
        for at, use in enumerate(program.uses):
            keeper.allow(use, str(at))
        keeper.withdraw(("d", "a"))
        kept = {use: reason for use, reason in keeper.allowances if "b" not in use}
        keeper.merge("a", "b")
        self.assertEqual(dict(keeper.allowances), kept)
        self.assertEqual(sorted(kept), [("a", "c"), ("g", "c")])
        self.assertEqual(keeper.program.uses, (("a", "c"), ("a", "e"), ("d", "a"), ("f", "a"), ("g", "c")))

    def test_refused(self):
        keeper = Keeper(P, rules=B.rules)
        for path, other, error in (("x", "y", errors.NoModule("x")), ("x", "x", errors.NoModule("x")),
                                   ("app", "app.db", errors.NoModule("app")), ("app.db", "app", errors.NoModule("app")),
                                   ("app.db", "app.db", errors.Itself("app.db"))):
            self.check_refused(keeper, lambda: keeper.merge(path, other), error)
        for value in [value for value in any_values() if value != "app.db"]:
            self.check_refused(keeper, lambda: keeper.merge(value, value), errors.NoModule(value))
            self.check_refused(keeper, lambda: keeper.merge("app.db", value), errors.NoModule(value))


class TestRulesAndAllowances(Checks):

    def test_add_rule(self):
        keeper = Keeper(P, rules=B.rules[:1])
        self.assertEqual([keeper.add_rule(B.rules[2]), keeper.add_rule(B.rules[1])], [1, 2])
        self.check_state(keeper, P, (B.rules[0], B.rules[2], B.rules[1]), ())

    def test_add_rule_refused(self):
        keeper = Keeper(P, rules=B.rules)
        for rule, word in ((None, "rule"), (list(B.rules[0]), "rule"), (("noring",), "rule"), (("noring", ("a",)), "paths"),
                           (("apart", ("a", "a"), "never"), "how"), (("only", ("a",), ("a.b",)), "overlap")):
            self.check_refused(keeper, lambda: keeper.add_rule(rule), errors.BadRule(word))
        for value in any_values():
            self.check_refused(keeper, lambda: keeper.add_rule(value), errors.BadRule("rule"))
        for rule in B.rules:
            self.check_refused(keeper, lambda: keeper.add_rule(rule), errors.Taken(rule))
        full = Keeper(P, rules=EIGHT)
        self.check_refused(full, lambda: full.add_rule(B.rules[0]), errors.TooMany(8))
        self.check_refused(full, lambda: full.add_rule(EIGHT[3]), errors.Taken(EIGHT[3]))
        self.check_refused(full, lambda: full.add_rule(EIGHT), errors.BadRule("rule"))

    def test_drop_rule(self):
        keeper = Keeper(P, rules=B.rules)
        for index in (3, -1, True, False, None, "0", 10 ** 39, (), [], B.rules[0]):
            self.check_refused(keeper, lambda: keeper.drop_rule(index), errors.NoRule(index))
        self.assertEqual(keeper.drop_rule(1), 1)
        self.check_state(keeper, P, (B.rules[0], B.rules[2]), ())
        self.check_refused(keeper, lambda: keeper.drop_rule(2), errors.NoRule(2))
        self.assertEqual([keeper.drop_rule(1), keeper.drop_rule(0), keeper.book], [2, 3, Book(())])
        for value in any_values():
            self.check_refused(keeper, lambda: keeper.drop_rule(value), errors.NoRule(value))

    def test_allow(self):
        keeper = Keeper(P, rules=B.rules)
        self.assertEqual(keeper.allow(PORT, "until the port"), 1)
        self.check_state(keeper, P, B.rules, ((PORT, "until the port"),))
        keeper[STORE] = "x" * 40
        self.check_state(keeper, P, B.rules, ((STORE, "x" * 40), (PORT, "until the port")))
        self.assertEqual(keeper.allow(PORT, " ~"), 3)
        self.assertEqual([keeper[PORT], keeper[STORE], len(keeper), keeper.version], [" ~", "x" * 40, 2, 3])
        self.assertEqual(keeper.allow(PORT, " ~"), 4)
        self.assertEqual([keeper.undo(), keeper.undo(), keeper[PORT]], [3, 2, "until the port"])

    def test_allow_refused(self):
        keeper = Keeper(P, rules=B.rules)
        keeper.allow(STORE, "kept")
        for use in (("app.db", "app.ui"), list(PORT), ("lib.net",), (*PORT, "x"), PORT[::-1], None, *any_values()):
            self.check_refused(keeper, lambda: keeper.allow(use, "x"), errors.NoUse(use))
            self.check_refused(keeper, lambda: keeper.allow(use, ""), errors.NoUse(use))
        reasons = [value for value in any_values() if not isinstance(value, str)]
        for reason in ("", "x" * 41, "tab\there", "line\n", "\x7f", "\x1f", "a" * 2000, "caf\u00e9", *reasons):
            for use in (PORT, STORE):
                self.check_refused(keeper, lambda: keeper.allow(use, reason), errors.BadReason(reason))

        def put(use, reason):
            keeper[use] = reason

        self.check_refused(keeper, lambda: put(PORT, ""), errors.BadReason(""))
        self.check_refused(keeper, lambda: put([], ""), errors.NoUse([]))

    def test_withdraw(self):
        keeper = Keeper(P, rules=B.rules)
        keeper.allow(PORT, "a")
        keeper.allow(STORE, "b")
        self.assertEqual(keeper.withdraw(PORT), 3)
        self.check_state(keeper, P, B.rules, ((STORE, "b"),))
        for use in (PORT, ("app.ui", "app.core"), list(STORE), *any_values()):
            self.check_refused(keeper, lambda: keeper.withdraw(use), errors.NoAllowance(use))

    def test_items_and_in(self):
        for cls in CLASSES:
            keeper = cls(P, rules=B.rules)
            keeper[PORT] = "why"
            self.assertEqual([keeper[PORT], PORT in keeper, STORE in keeper, list(PORT) in keeper, len(keeper)],
                             ["why", True, False, False, 1])
            for use in (STORE, list(PORT), ("why",), 0, *any_values()):
                self.assertIs(use in keeper, False)
                self.check_refused(keeper, lambda: keeper[use], errors.NoAllowance(use))


class TestFindingsAndNews(Checks):

    def test_an_edit_that_breaks_and_one_that_heals(self):
        keeper = Keeper(P, rules=B.rules)
        keeper.cut_use(*PORT)
        self.assertEqual((keeper.findings, keeper.news), ((), ((), B.rules[1:])))
        keeper.add_module("web")
        self.assertEqual(keeper.news, ((), ()))
        keeper.add_use(*PORT)
        self.assertEqual(keeper.news, (B.rules[1:], ()))
        keeper.add_use("app.db", "app.ui")
        self.assertEqual(keeper.news, ((B.rules[0],), ()))
        keeper.undo()
        self.assertEqual(keeper.news, ((), (B.rules[0],)))
        keeper.undo()
        self.assertEqual(keeper.news, ((), B.rules[1:]))

    def test_rules_that_come_and_go(self):
        keeper = Keeper(P, rules=B.rules)
        keeper.drop_rule(1)
        # A rule that is not in the book as it is now is not healed.
        self.assertEqual(keeper.news, ((), ()))
        keeper.add_rule(B.rules[1])
        self.assertEqual((keeper.book.rules, keeper.news), ((B.rules[0], B.rules[2], B.rules[1]), ((B.rules[1],), ())))
        keeper.undo()
        self.assertEqual(keeper.news, ((), ()))
        keeper.run([("drop_rule", 1), ("add_rule", B.rules[2])])
        self.assertEqual(keeper.news, ((), ()))

    def test_allowances_heal(self):
        keeper = Keeper(P, rules=B.rules)
        keeper.allow(STORE, "x")
        self.assertEqual((keeper.findings, keeper.news), (((1, (PORT,)),), ((), (B.rules[2],))))
        keeper.withdraw(STORE)
        self.assertEqual(keeper.news, ((B.rules[2],), ()))
        keeper.run((("allow", PORT, "y"), ("add_use", "app.db", "app.ui")))
        self.assertEqual((keeper.news, keeper.findings), (((B.rules[0],), B.rules[1:]), ((0, (("app.db", "app.ui"),)),)))
        keeper.undo()
        self.assertEqual((keeper.news, keeper.findings), (((), (B.rules[0],)), ()))

    def test_what_raises_leaves_the_news(self):
        keeper = Keeper(P, rules=B.rules)
        keeper.cut_use(*PORT)
        self.check_refused(keeper, lambda: keeper.cut_use(*PORT), errors.NoUse(PORT))
        self.check_refused(keeper, lambda: keeper.run((("add_use", *PORT), ("add_use", *PORT))), errors.Rejected(1))
        self.assertEqual(keeper.news, ((), B.rules[1:]))


class TestFullAndUndo(Checks):

    def full(self, cls=Keeper):
        keeper = cls(P, rules=B.rules)
        for at in range(40):
            self.assertEqual(keeper.allow(PORT, str(at)), at + 1)
        return keeper

    def test_full_ahead_of_every_error(self):
        for cls in CLASSES:
            keeper = self.full(cls)
            for name, many in ARGUMENTS.items():
                for rest in ((None,) * many, ("app.db",) * many, (PORT, "ok")[:many], ("web", "lib.log")[:many]):
                    self.check_refused(keeper, lambda: getattr(keeper, name)(*rest), errors.Full())
            self.assertEqual(str(keeper), "40 edits, 0 findings")

    def test_undo_back_to_the_beginning(self):
        for cls in CLASSES:
            keeper = self.full(cls)
            self.assertEqual([keeper.undo() for _ in range(39)], list(range(39, 0, -1)))
            self.assertEqual(keeper.allowances, ((PORT, "0"),))
            self.assertEqual(keeper.undo(), 0)
            self.check_state(keeper, P, B.rules, ())
            self.assertEqual(keeper.news, (B.rules[1:], ()))
            self.check_refused(keeper, keeper.undo, errors.NothingToUndo())
            self.assertEqual(keeper.allow(PORT, "again"), 1)

    def test_room_again_behind_undo(self):
        keeper = self.full()
        keeper.undo()
        self.assertEqual(keeper.add_module("web"), 40)
        self.check_refused(keeper, lambda: keeper.add_module("web"), errors.Full())

    def test_full_in_a_run(self):
        keeper = self.full()
        self.assertEqual(keeper.run(()), 40)
        self.assertEqual(keeper.news, ((), ()))
        self.check_refused(keeper, lambda: keeper.run((("allow", PORT, "x"),)), errors.Rejected(0))
        for _ in range(5):
            keeper.undo()
        edits = tuple(("allow", PORT, "y" + str(at)) for at in range(10))
        self.check_refused(keeper, lambda: keeper.run(edits), errors.Rejected(5))
        self.assertEqual(keeper.run(edits[:5]), 40)
        self.assertEqual([keeper.undo(), keeper[PORT]], [39, "y3"])


class TestRuns(Checks):

    def test_is_edit(self):
        for cls in CLASSES:
            for name, many in ARGUMENTS.items():
                for value in any_values():
                    self.assertIs(cls.is_edit((name, *[value] * many)), True)
                self.assertIs(cls.is_edit((name, *[None] * (many + 1))), False)
                self.assertIs(cls.is_edit((name, *[None] * (many - 1))), False)
                self.assertIs(cls.is_edit([name, *[None] * many]), False)
                self.assertIs(cls.is_edit(name), False)
                self.assertIs(cls.is_edit((name.upper(), *[None] * many)), False)
            for name in ("undo", "run", "twin", "is_edit", "_edit", "", None, True, 0, [], {}, ("add_module",)):
                for many in range(4):
                    self.assertIs(cls.is_edit((name, *[None] * many)), False)
            for value in any_values():
                self.assertIs(cls.is_edit(value), False)
        self.assertIs(Keeper(P).is_edit(("drop_rule", 0)), True)

    def test_lists_and_tuples(self):
        for form in (list, tuple):
            keeper = Keeper(P, rules=B.rules)
            edits = form([("add_module", "web"), ("add_use", "web", "app.ui"), ("allow", PORT, "x")])
            kept = copy.deepcopy(edits)
            self.assertEqual(keeper.run(edits), 3)
            self.assertEqual(edits, kept)
            self.check_state(keeper, P | Program.of(("web", "app.ui")), B.rules, ((PORT, "x"),))
            self.assertEqual(keeper.news, ((), B.rules[1:]))
            self.assertEqual([keeper.undo(), keeper.undo(), len(keeper.program)], [2, 1, 4])
            self.assertEqual(keeper.run(form([])), 1)
            self.assertEqual(keeper.news, ((), ()))

    def test_so_many(self):
        edits = [("allow", PORT, str(at)) for at in range(11)]
        for form in (list, tuple):
            keeper = Keeper(P)
            self.check_refused(keeper, lambda: keeper.run(form(edits)), errors.BadBatch())
            self.check_refused(keeper, lambda: keeper.run(form([None] * 11)), errors.BadBatch())
            self.assertEqual(keeper.run(form(edits[:10])), 10)
            self.check_refused(keeper, lambda: keeper.run(form([None] * 10)), errors.BadEdit(0))

    def test_what_is_no_batch(self):
        keeper = Keeper(P, rules=B.rules)
        for value in (None, True, 0, 1, "", "add_module", {}, {("add_module", "x"): 1}, P, B):
            self.check_refused(keeper, lambda: keeper.run(value), errors.BadBatch())
        for value in any_values():
            if not isinstance(value, (list, tuple)) or len(value) > 10:
                self.check_refused(keeper, lambda: keeper.run(value), errors.BadBatch())
            elif len(value):
                self.check_refused(keeper, lambda: keeper.run(value), errors.BadEdit(0))

    def test_what_is_no_edit(self):
        keeper = Keeper(P, rules=B.rules)
        good = ("allow", PORT, "x")
        for bad in (None, (), ["allow", PORT, "x"], ("allow", PORT), ("undo",), ("run", ()), ("twin",), ("add_module",)):
            self.check_refused(keeper, lambda: keeper.run((good, good, bad, None)), errors.BadEdit(2))
            # Ahead of an edit that raises.
            self.check_refused(keeper, lambda: keeper.run((("drop_rule", 9), bad)), errors.BadEdit(1))
        self.check_refused(keeper, lambda: keeper.run(good), errors.BadEdit(0))

    def test_an_edit_that_raises(self):
        keeper = Keeper(P, rules=B.rules)
        good = ("allow", PORT, "x")
        for bad in (("add_module", None), ("add_module", "app"), ("drop_module", "x"), ("drop_module", "app.db"), ("add_use", "x", "y"),
                    ("add_use", *STORE), ("add_use", "app.db", "app.db"), ("cut_use", "x", []), ("rename", "x", "y"), ("rename", "app", 1),
                    ("merge", "x", "y"), ("add_rule", {}), ("add_rule", B.rules[0]), ("drop_rule", True), ("drop_rule", 3),
                    ("allow", [], "x"), ("allow", PORT, ""), ("withdraw", STORE)):
            for at in range(4):
                edits = [good] * 4
                edits[at] = bad
                self.check_refused(keeper, lambda: keeper.run(edits), errors.Rejected(at))
                self.check_refused(keeper, lambda: keeper.run((*edits[:at + 1], None)), errors.BadEdit(at + 1))

    def test_each_edit_is_done_on_what_those_before_it_left(self):
        keeper = Keeper(EMPTY)
        edits = [("add_module", "a.x"), ("add_module", "a.y"), ("add_use", "a.x", "a.y"), ("allow", ("a.x", "a.y"), "why"),
                 ("rename", "a", "b"), ("withdraw", ("b.x", "b.y")), ("merge", "b.x", "b.y"), ("drop_module", "b.x")]
        self.assertEqual(keeper.run(edits), 8)
        self.check_state(keeper, EMPTY, (), ())
        self.assertEqual([keeper.undo(), keeper.undo(), keeper.undo(), keeper.allowances], [7, 6, 5, ((("b.x", "b.y"), "why"),)])


class TestTwinsAndEquality(Checks):

    def test_a_twin_is_of_the_same_class_and_goes_its_own_way(self):
        for cls in CLASSES:
            keeper = cls(P, rules=B.rules)
            keeper.allow(PORT, "x")
            keeper.add_module("web")
            keeper.undo()
            other = keeper.twin()
            self.assertIs(type(other), cls)
            self.assertIsNot(other, keeper)
            self.assertEqual((told(other), other.news, other == keeper), (told(keeper), keeper.news, True))
            keeper.add_module("net")
            self.assertEqual((other.version, "net" in other.program, other.undo(), keeper.version), (1, False, 0, 2))
            self.assertEqual((other.news, keeper.news), ((B.rules[1:], ()), ((), ())))
            other.drop_rule(0)
            self.assertEqual([len(keeper.book), len(other.book), len(keeper), len(other)], [3, 2, 1, 0])
            self.assertEqual([keeper.undo(), keeper.undo()], [1, 0])
            self.check_refused(keeper, keeper.undo, errors.NothingToUndo())
            self.assertEqual((keeper == other, other.undo(), keeper == other), (False, 0, True))

    def test_equal_keepers_of_unlike_classes(self):
        for one in CLASSES:
            for other in CLASSES:
                keeper, second = one(P, rules=B.rules), other(P, rules=B.rules)
                self.assertIs(keeper == second, True)
                self.assertIs(keeper != second, False)
                second.add_module("web")
                self.assertIs(keeper == second, False)
                self.assertIs(second != keeper, True)
                second.drop_module("web")
                self.assertIs(keeper == second, True)
                second.allow(PORT, "x")
                self.assertIs(keeper == second, False)
                keeper.allow(PORT, "y")
                self.assertIs(keeper == second, False)
                keeper.allow(PORT, "x")
                self.assertIs(keeper == second, True)
                self.assertIs(one(P, rules=B.rules[::-1]) == other(P, rules=B.rules), False)
                self.assertIs(one(P) == other(EMPTY), False)
        self.assertIs(StrictKeeper(P, lenient=True) == AuditKeeper(P), True)

    def test_a_keeper_equals_nothing_of_another_kind(self):
        for cls in CLASSES:
            for value in (P, B, (P, B, ()), str(cls(P)), *any_values()):
                self.assertIs(cls(P, rules=B.rules) == value, False)
                self.assertIs(value == cls(P, rules=B.rules), False)


class TestAgainstAPlainKeeper(Checks):

    PATHS = ("a.a", "a.b", "ab", "b", "c.a.a", "c.a.b", "c.b", "d", "a", "c", "c.a", "x.y", "a.b.c.d.e", "", None)
    REASONS = ("why", "until then", "x" * 40, "", None)

    def edit(self, rng, keeper):
        """A random edit, which often can be done."""
        name = rng.choice(list(ARGUMENTS))
        modules = keeper.program.modules or ("a.a",)
        if name in ("cut_use", "allow", "withdraw") and len(keeper.program):
            use = rng.choice(keeper.program.uses)
            return (name, *use) if name == "cut_use" else (name, use, rng.choice(self.REASONS))[:ARGUMENTS[name] + 1]
        if name == "add_rule":
            return (name, rng.choice([*RULES, None]))
        if name == "drop_rule":
            return (name, rng.randint(-1, 6))
        if name in ("add_use", "merge"):
            return (name, rng.choice(modules), rng.choice(modules))
        return (name, *[rng.choice([*self.PATHS, *modules[:3]]) for _ in range(ARGUMENTS[name])])

    def outcome(self, call):
        """What a call returns, or its error as comparable values."""
        try:
            return (None, call())
        except (errors.RestError, LookupError) as error:
            return fields(error)

    def session(self, rng, keeper, plain, many):
        """So many random calls of both."""
        raised = {}
        for _ in range(many):
            kind = rng.random()
            if kind < 0.7:
                edit = self.edit(rng, keeper)
                seen = (self.outcome(lambda: getattr(keeper, edit[0])(*edit[1:])), self.outcome(lambda: plain.edit(*edit)))
            elif kind < 0.85:
                seen = (self.outcome(keeper.undo), self.outcome(plain.undo))
            else:
                edits = [self.edit(rng, keeper) for _ in range(rng.randint(0, 3))]
                seen = (self.outcome(lambda: keeper.run(edits)), self.outcome(lambda: plain.run(edits)))
            self.assertEqual(*seen)
            raised[seen[0][0]] = raised.get(seen[0][0], 0) + 1
            state = plain.states[-1]
            self.check_state(keeper, plain_program(state), tuple(state["rules"]), tuple(sorted(state["reasons"].items())))
            self.assertEqual((keeper.version, keeper.news), (len(plain.states) - 1, plain.news))
            if hasattr(keeper, "log"):
                self.assertEqual(keeper.log, plain.log)
            if rng.random() < 0.05:
                keeper = keeper.twin()
        return raised

    def test_random_sessions(self):
        rng = random.Random(92)
        counts = {}
        for program in some_programs(92, 48, 6, 8):
            cls = rng.choice(CLASSES)
            rules = tuple(rng.sample(RULES, rng.randint(0, 5)))
            keeper, plain = cls(program, rules=rules), PlainKeeper(program, rules, strict=issubclass(cls, StrictKeeper))
            for key, many in self.session(rng, keeper, plain, 90).items():
                counts[key] = counts.get(key, 0) + many
        for cls in (None, errors.BadPath, errors.Clash, errors.NoModule, errors.InUse, errors.Itself, errors.Taken, errors.NoUse,
                    errors.NoPart, errors.BadRule, errors.NoRule, errors.BadReason, errors.NoAllowance, errors.NothingToUndo,
                    errors.Rejected, errors.Breaks):
            self.assertGreater(counts.get(cls, 0), 3, cls)


class TestConventions(Checks):

    def test_at_the_limits(self):
        keeper = AuditKeeper(crowded(93), rules=(("noring", ("a", "b.x", "c")), ("forbid", ("a",), ("c",), "chain"), *EIGHT[:6]))
        self.assertEqual(keeper.rename("b.x", "b.y.z.u.v"), 1)
        self.assertEqual(keeper.merge("a.a", "c.h"), 2)
        self.assertEqual(len(keeper.program.modules), 23)
        self.assertEqual(keeper.findings, keeper.book(keeper.program))

    def test_equal_calls_return_equal_results(self):
        for cls in CLASSES:
            keepers = [cls(P, rules=B.rules) for _ in range(2)]
            for call in (lambda keeper: keeper.add_module("web"), lambda keeper: keeper.allow(PORT, "x"),
                         lambda keeper: keeper.run([("add_use", "web", "app.ui"), ("rename", "web", "www")]),
                         lambda keeper: keeper.undo(), lambda keeper: (keeper.news, told(keeper))):
                self.assertEqual(call(keepers[0]), call(keepers[1]))


if __name__ == "__main__":
    unittest.main()
