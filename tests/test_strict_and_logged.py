"""Points 27 and 28: strict, logged and audit keepers, by mayrest.keepers."""

import unittest

from mayrest import errors
from mayrest.keepers import AuditKeeper, Keeper, LoggedKeeper, StrictKeeper
from mayrest.programs import Program
from tests.models import P
from tests.plain import ARGUMENTS
from tests.test_keepers import B, PORT, STORE, Checks, told

STRICT = (StrictKeeper, AuditKeeper)
LOGGED = (LoggedKeeper, AuditKeeper)
BACK = ("app.db", "app.ui")

# A program that keeps all of these rules, but for the last one.
CLEAN = Program(("a.x", "a.y", "b.x", "c.x", "d"), (("a.x", "b.x"), ("b.x", "c.x"), ("a.y", "a.x"), ("d", "b.x")))
RULES = (("forbid", ("c",), ("b",), "direct"), ("forbid", ("b",), ("a",), "chain"), ("noring", ("a", "b")), ("face", "a", ()),
         ("only", ("b",), ("a",)))


class TestStrict(Checks):

    def test_each_editing_method_that_breaks_a_rule(self):
        for cls in STRICT:
            keeper = cls(CLEAN, rules=RULES)
            self.assertEqual([index for index, _ in keeper.findings], [4])
            back, ring = ("c.x", "b.x"), ("b.x", "a.x")
            self.check_refused(keeper, lambda: keeper.add_use(*back), errors.Breaks(RULES[0], (back,)))
            self.check_refused(keeper, lambda: keeper.add_use(*ring), errors.Breaks(RULES[1], (ring,)))
            self.check_refused(keeper, lambda: keeper.add_use("c.x", "a.x"), errors.Breaks(RULES[1], (("b.x", "c.x"), ("c.x", "a.x"))))
            self.check_refused(keeper, lambda: keeper.rename("d", "c.d"), errors.Breaks(RULES[0], (("c.d", "b.x"),)))
            self.check_refused(keeper, lambda: keeper.merge("a.y", "b.x"), errors.Breaks(RULES[3], (("d", "a.y"),)))
            rule = ("apart", ("a", "c"), "chain")
            self.check_refused(keeper, lambda: keeper.add_rule(rule), errors.Breaks(rule, (("a.x", "b.x"), ("b.x", "c.x"))))
            self.assertEqual((keeper.version, keeper.news, keeper == Keeper(CLEAN, rules=RULES)), (0, ((), ()), True))

    def test_withdraw_and_in(self):
        for cls in STRICT:
            keeper = cls(P, rules=B.rules)
            self.assertEqual([keeper.allow(PORT, "x"), keeper.allow(STORE, "y")], [1, 2])
            self.check_refused(keeper, lambda: keeper.withdraw(PORT), errors.Breaks(B.rules[1], (PORT,)))
            self.assertEqual(keeper.withdraw(STORE), 3)
            self.check_refused(keeper, lambda: keeper.withdraw(PORT), errors.Breaks(B.rules[1], (PORT,)))
            self.assertEqual([keeper[PORT], STORE in keeper, keeper.findings], ["x", False, ()])

    def test_rules_that_are_broken_already(self):
        for cls in STRICT:
            keeper = cls(P, rules=B.rules)
            # Two of the rules are broken at the beginning; more evidence against them is not refused.
            self.assertEqual(keeper.add_use("lib.net", "app.ui"), 1)
            self.assertEqual(keeper.add_use("lib.net", "app.db"), 2)
            self.check_refused(keeper, lambda: keeper.add_use(*BACK), errors.Breaks(B.rules[0], (BACK,)))
            keeper.drop_rule(1)
            # Now it is not named before the edit.
            self.check_refused(keeper, lambda: keeper.add_rule(B.rules[1]), errors.Breaks(B.rules[1], (PORT,)))
            # An index of its own does not make a rule another one.
            self.assertEqual([keeper.drop_rule(0), keeper.add_module("web"), keeper.findings[0][0]], [4, 5, 0])

    def test_the_first_such_rule_of_the_book(self):
        for cls in STRICT:
            for rules in (B.rules, B.rules[::-1]):
                keeper = cls(P - Program.of(PORT), rules=rules)
                rule = [rule for rule in rules if rule[0] != "layers"][0]
                with self.assertRaises(errors.Breaks) as caught:
                    keeper.add_use(*PORT)
                self.assertEqual(caught.exception.rule, rule)
                self.assertEqual(caught.exception.evidence, (PORT,) if rule[0] == "forbid" else (STORE, PORT))

    def test_behind_the_own_errors(self):
        for cls in STRICT:
            keeper = cls(P, rules=B.rules[:1])
            self.check_refused(keeper, lambda: keeper.add_use("app.db", "app"), errors.NoModule("app"))
            self.check_refused(keeper, lambda: keeper.add_rule(B.rules[0]), errors.Taken(B.rules[0]))
            self.check_refused(keeper, lambda: keeper.rename("app.db", "app.ui"), errors.Clash("app.ui"))
            self.check_refused(keeper, lambda: keeper.add_use(*BACK), errors.Breaks(B.rules[0], (BACK,)))
            for _ in range(20):
                keeper.run([("add_module", "web"), ("drop_module", "web")])
            self.check_refused(keeper, lambda: keeper.add_use(*BACK), errors.Full())
            self.check_refused(keeper, lambda: keeper.add_rule(B.rules[1]), errors.Full())

    def test_plain_and_logged_keepers_refuse_nothing(self):
        for cls in (Keeper, LoggedKeeper):
            keeper = cls(P, rules=B.rules)
            self.assertEqual([keeper.add_use(*BACK), keeper.findings[0][0]], [1, 0])
            self.assertFalse(hasattr(keeper, "lenient"))

    def test_lenient(self):
        for cls in STRICT:
            keeper = cls(P, rules=B.rules, lenient=True)
            self.assertEqual(keeper.add_use(*BACK), 1)
            keeper.lenient = False
            self.assertEqual((keeper.lenient, keeper.version, keeper.news), (False, 1, ((B.rules[0],), ())))
            keeper.cut_use(*BACK)
            self.check_refused(keeper, lambda: keeper.add_use(*BACK), errors.Breaks(B.rules[0], (BACK,)))
            keeper.lenient = True
            self.assertEqual([keeper.lenient, keeper.add_use(*BACK), keeper.lenient], [True, 3, True])
            self.assertEqual(keeper.run((("cut_use", *BACK), ("add_use", *BACK))), 5)
            # Lenient keepers have their own errors still.
            self.check_refused(keeper, lambda: keeper.add_use(*BACK), errors.Taken(BACK))

    def test_setting_it_is_no_edit(self):
        for cls in STRICT:
            keeper = cls(P, rules=B.rules)
            keeper.add_module("web")
            log = getattr(keeper, "log", None)
            for value in (True, False, True, True):
                keeper.lenient = value
                self.assertEqual((keeper.lenient, keeper.version, getattr(keeper, "log", None)), (value, 1, log))
            self.assertEqual([keeper.undo(), keeper.lenient], [0, True])

    def test_undo_is_never_refused(self):
        for cls in STRICT:
            keeper = cls(P, rules=B.rules)
            keeper.cut_use(*PORT)
            self.assertEqual(keeper.findings, ())
            self.check_refused(keeper, lambda: keeper.add_use(*PORT), errors.Breaks(B.rules[1], (PORT,)))
            self.assertEqual([keeper.undo(), len(keeper.findings), keeper.news], [0, 2, (B.rules[1:], ())])

    def test_runs(self):
        for cls in STRICT:
            keeper = cls(P, rules=B.rules)
            self.check_refused(keeper, lambda: keeper.run((("add_module", "web"), ("add_use", *BACK))), errors.Rejected(1))
            # It is looked at for each edit: a later one that heals does not help.
            self.check_refused(keeper, lambda: keeper.run((("add_use", *BACK), ("cut_use", *BACK))), errors.Rejected(0))
            self.check_refused(keeper, lambda: keeper.run((("cut_use", *PORT), ("add_use", *PORT))), errors.Rejected(1))
            self.assertEqual(keeper.run((("cut_use", *PORT), ("drop_rule", 2), ("drop_rule", 1), ("add_use", *PORT))), 4)
            keeper.lenient = True
            self.assertEqual(keeper.run((("add_use", *BACK), ("cut_use", *BACK))), 6)

    def test_twins(self):
        for cls in STRICT:
            for lenient in (True, False):
                keeper = cls(P, rules=B.rules, lenient=lenient)
                keeper.add_module("web")
                other = keeper.twin()
                self.assertIs(type(other), cls)
                self.assertEqual((told(other), other.lenient), (told(keeper), lenient))
                other.lenient = not lenient
                self.assertIs(keeper.lenient, lenient)
                changed = keeper if lenient else other
                refused = other if lenient else keeper
                self.assertEqual(changed.add_use(*BACK), 2)
                self.check_refused(refused, lambda: refused.add_use(*BACK), errors.Breaks(B.rules[0], (BACK,)))


class TestLogged(Checks):

    def test_each_call(self):
        for cls in LOGGED:
            keeper = cls(P, rules=B.rules)
            calls = [("add_module", "web"), ("add_use", "web", "app.ui"), ("rename", "web", "net"), ("allow", STORE, "x"),
                     ("withdraw", STORE), ("merge", "lib.net", "net"), ("drop_rule", 1), ("add_rule", ("noring", ("x", "y"))),
                     ("cut_use", *PORT), ("drop_module", "lib.net")]
            keeper.run((("drop_rule", 2),))
            expected = [("run", 1)]
            for name, *rest in calls:
                if name == "drop_module":
                    expected.append(("cut_use", keeper.cut_use("lib.net", "app.ui")))
                version = getattr(keeper, name)(*rest)
                expected.append((name, version))
                self.assertEqual(keeper.log, tuple(expected))
            self.assertEqual({name for name, _ in keeper.log}, {*ARGUMENTS, "run"})
            keeper[STORE] = "y"
            expected.append(("allow", keeper.version))
            expected.append(("undo", keeper.undo()))
            expected.append(("run", keeper.run([])))
            expected.append(("run", keeper.run([("allow", STORE, "z"), ("withdraw", STORE)])))
            expected.append(("undo", keeper.undo()))
            self.assertEqual(keeper.log, tuple(expected))
            self.assertEqual(keeper.log[-3:], (("run", 12), ("run", 14), ("undo", 13)))

    def test_what_raises_is_not_there(self):
        for cls in LOGGED:
            keeper = cls(P, rules=B.rules)
            for call in (lambda: keeper.add_module(None), lambda: keeper.undo(), lambda: keeper.run(None),
                         lambda: keeper.run([None]), lambda: keeper.run([("add_module", "web"), ("add_module", "web")]),
                         lambda: keeper.withdraw(PORT), lambda: keeper[PORT]):
                with self.assertRaises((errors.RestError, LookupError)):
                    call()
                self.assertEqual(keeper.log, ())
            PORT in keeper, len(keeper), str(keeper), keeper.twin(), keeper == keeper
            self.assertEqual(keeper.log, ())

    def test_refused_edits_of_an_audit_keeper(self):
        keeper = AuditKeeper(P, rules=B.rules)
        for call in (lambda: keeper.add_use(*BACK), lambda: keeper.run([("add_use", *BACK)])):
            with self.assertRaises((errors.Breaks, errors.Rejected)):
                call()
        self.assertEqual(keeper.log, ())
        keeper.lenient = True
        self.assertEqual([keeper.add_use(*BACK), keeper.log], [1, (("add_use", 1),)])

    def test_twins(self):
        for cls in LOGGED:
            keeper = cls(P, rules=B.rules)
            keeper.add_module("web")
            other = keeper.twin()
            self.assertEqual((type(other), other.log), (cls, (("add_module", 1),)))
            other.undo()
            keeper.drop_rule(0)
            self.assertEqual(other.log, (("add_module", 1), ("undo", 0)))
            self.assertEqual(keeper.log, (("add_module", 1), ("drop_rule", 2)))

    def test_long_logs(self):
        keeper = LoggedKeeper(P)
        for _ in range(150):
            keeper.add_module("web")
            keeper.undo()
        self.assertEqual(keeper.log, (("add_module", 1), ("undo", 0)) * 150)

    def test_the_log_does_not_count_for_equality(self):
        one, other = LoggedKeeper(P), LoggedKeeper(P)
        one.run([])
        self.assertIs(one == other, True)


class TestAudit(Checks):

    def test_it_is_both(self):
        keeper = AuditKeeper(P, rules=B.rules, lenient=True)
        for cls in (Keeper, StrictKeeper, LoggedKeeper, AuditKeeper):
            self.assertIsInstance(keeper, cls)
        self.assertEqual((keeper.lenient, keeper.log), (True, ()))
        self.assertFalse(isinstance(StrictKeeper(P), LoggedKeeper) or isinstance(LoggedKeeper(P), StrictKeeper))


if __name__ == "__main__":
    unittest.main()
