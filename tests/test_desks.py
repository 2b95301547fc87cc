"""Point 30: desks, by mayrest.desks; points 3 and 31, as far as they speak of them."""

import copy
import inspect
import unittest

from mayrest.books import Book
from mayrest.desks import Desk
from mayrest.keepers import AuditKeeper, Keeper, LoggedKeeper, StrictKeeper
from mayrest.programs import Program
from tests.models import CROWD, EMPTY, P, R, crowded, pairs_of
from tests.rulings import EIGHT
from tests.samples import any_values
from tests.test_texts import NO_RULES, TEXTS

B = Book((("layers", (("app.ui",), ("app.core",), ("app.db",)), "chain"), ("forbid", ("lib",), ("app",), "direct"),
          ("noring", ("app", "lib"))))
CLASSES = (Keeper, StrictKeeper, LoggedKeeper, AuditKeeper)
PORT = ("lib.net", "app.core")


class Checks(unittest.TestCase):

    def desk(self, program=P, rules=B.rules, cls=Keeper, **more):
        """A desk with its keeper."""
        keeper = cls(program, rules=rules, **more)
        return Desk(keeper), keeper

    def check(self, desk, *pairs):
        """The answers to lines, in their order."""
        for line, answer in pairs:
            with self.subTest(line=line):
                self.assertEqual(desk.say(line), answer)

    def full(self, cls=Keeper):
        """A desk with a keeper of forty edits."""
        desk, keeper = self.desk(cls=cls)
        for _ in range(4):
            keeper.run([("allow", PORT, "x")] * 10)
        return desk, keeper


class TestInterface(Checks):

    def test_the_class_is_defined_in_this_file_with_its_methods(self):
        self.assertEqual((Desk.__module__, str(inspect.signature(Desk))), ("mayrest.desks", "(keeper)"))
        self.assertEqual(list(inspect.signature(vars(Desk)["say"]).parameters), ["self", "line"])
        self.assertIsInstance(vars(Desk)["history"], property)
        self.assertIsNone(vars(Desk)["history"].fset)

    def test_the_example_of_point_30(self):
        desk = Desk(Keeper(P, rules=B.rules))
        told = [desk.say(line) for line in ("why", "cuts", "allow lib.net app.core  for now", "why", "use app.db app.db",
                                            "chain lib app.db", "norule 9", "norule 09")]
        self.assertEqual(told, ["1: lib.net app.core; 2: app.db lib.log, lib.net app.core", "lib.net app.core", "ok 1", "-", "no Itself",
                                "lib.net app.core app.db", "no NoRule", "what"])


class TestEdits(Checks):

    def test_each_edit(self):
        for cls in (Keeper, LoggedKeeper):
            desk, keeper = self.desk(cls=cls)
            self.check(desk, ("module web", "ok 1"), ("use web app.ui", "ok 2"), ("rename web www.x", "ok 3"),
                       ("allow www.x app.ui why not", "ok 4"), ("merge app.ui www.x", "ok 5"), ("norule 0", "ok 6"),
                       ("rule only lib <- app www", "ok 7"), ("allow lib.net app.core  a   b ", "ok 8"), ("withdraw lib.net app.core", "ok 9"),
                       ("cut lib.net app.core", "ok 10"), ("drop lib.net", "ok 11"), ("undo", "ok 10"), ("undo", "ok 9"))
            self.assertEqual(keeper.program, P)
            self.assertEqual(keeper.book.rules, (*B.rules[1:], ("only", ("lib",), ("app", "www"))))
            self.assertEqual(keeper.allowances, ())
            self.assertEqual([desk.say("undo"), keeper.allowances], ["ok 8", ((PORT, "a b"),)])
            if cls == LoggedKeeper:
                self.assertEqual([name for name, _ in keeper.log][:11], [
                    "add_module", "add_use", "rename", "allow", "merge", "drop_rule", "add_rule", "allow", "withdraw", "cut_use",
                    "drop_module"])

    def test_errors(self):
        desk, keeper = self.desk()
        self.check(desk, ("module App", "no BadPath"), ("module app", "no Clash"), ("drop x", "no NoModule"), ("drop app.db", "no InUse"),
                   ("use x y", "no NoModule"), ("use app.db x", "no NoModule"), ("use app.db app.db", "no Itself"),
                   ("use app.db lib.log", "no Taken"), ("cut x y", "no NoUse"), ("rename x y", "no NoPart"), ("rename app Y", "no BadPath"),
                   ("rename app a.b.c.d.e.f", "no BadPath"), ("rename app.db lib.log", "no Clash"), ("merge x y", "no NoModule"),
                   ("merge app.db app.db", "no Itself"), ("rule forbid direct lib -> app", "no Taken"), ("norule 3", "no NoRule"),
                   ("norule 999", "no NoRule"), ("allow x y z", "no NoUse"), ("allow lib.net app.core " + "x" * 41, "no BadReason"),
                   ("allow lib.net app.core a\tb", "no BadReason"), ("withdraw lib.net app.core", "no NoAllowance"),
                   ("undo", "no NothingToUndo"))
        self.assertEqual(keeper.version, 0)
        free = [pair for pair in pairs_of(CROWD) if pair not in crowded(97)][0]
        for program, rules, line in ((Program(CROWD, ()), (), "module d"), (crowded(97), (), "use " + " ".join(free)),
                                     (P, EIGHT, "rule noring x y")):
            desk, _ = self.desk(program, rules)
            self.check(desk, (line, "no TooMany"))

    def test_full(self):
        for cls in CLASSES:
            desk, keeper = self.full(cls)
            self.check(desk, ("module App", "no Full"), ("drop x", "no Full"), ("use x y", "no Full"), ("cut x y", "no Full"),
                       ("rename x y", "no Full"), ("merge x y", "no Full"), ("norule 9", "no Full"), ("allow x y z", "no Full"),
                       ("withdraw x y", "no Full"), ("rule noring x y", "no Full"), ("rule noring app lib", "no Full"),
                       ("rule noring x", "no BadText"), ("rule", "no BadText"), ("module", "what"), ("why", "-"), ("undo", "ok 39"))

    def test_strict_keepers(self):
        for cls in (StrictKeeper, AuditKeeper):
            desk, keeper = self.desk(cls=cls)
            self.check(desk, ("use app.db app.ui", "no Breaks"), ("lenient", "ok 0"), ("use app.db app.ui", "ok 1"), ("strict", "ok 1"),
                       ("undo", "ok 0"), ("use app.db app.ui", "no Breaks"), ("  strict ", "ok 0"), (" lenient", "ok 0"))
            self.assertIs(keeper.lenient, True)
            self.check(desk, ("strict", "ok 0"))
            self.assertIs(keeper.lenient, False)
            self.check(desk, ("strict now", "what"), ("lenient 1", "what"))
            self.assertIs(keeper.lenient, False)

    def test_lenient_and_strict_at_other_keepers(self):
        for cls in (Keeper, LoggedKeeper):
            desk, keeper = self.desk(cls=cls)
            self.check(desk, ("lenient", "what"), ("strict", "what"), ("lenient x", "what"))
            self.assertFalse(hasattr(keeper, "lenient"))

    def test_it_works_on_this_very_keeper(self):
        desk, keeper = self.desk()
        keeper.add_module("web")
        self.check(desk, ("drop web", "ok 2"))
        self.assertEqual(keeper.version, 2)
        other = Desk(keeper)
        self.check(other, ("undo", "ok 1"))
        self.assertEqual(("web" in keeper.program, desk.history, other.history), (True, (("drop web", "ok 2"),), (("undo", "ok 1"),)))


class TestRules(Checks):

    def test_the_words_of_a_rule(self):
        for rule, text in TEXTS:
            desk, keeper = self.desk(rules=())
            self.check(desk, ("rule " + text, "ok 1"), ("rule  " + text.replace(" ", "   ") + " ", "no Taken"))
            self.assertEqual(keeper.book.rules, (rule,))
            self.check(desk, ("book", text))

    def test_other_words(self):
        desk, keeper = self.desk(rules=())
        for text in [*NO_RULES, "", "  ", "noring a b # c", "noring a b #", "# noring a b", "noring a\nb", "noring a b\n", "rule noring a b"]:
            self.check(desk, ("rule " + text, "no BadText"))
        self.assertEqual((desk.say("rule"), keeper.version), ("no BadText", 0))

    def test_numbers(self):
        desk, keeper = self.desk()
        for word in ("", "00", "01", "09", "000", "0000", "1000", "-1", "+1", "1.", "x", "1x", "0x1", "1_0", "None", "True", "1\n", "\t1", "1 2"):
            self.check(desk, ("norule " + word, "what"))
        for word in ("3", "10", "100", "999"):
            self.check(desk, ("norule " + word, "no NoRule"))
        self.check(desk, ("norule 2", "ok 1"), ("norule 0", "ok 2"), ("norule 1", "no NoRule"))
        self.assertEqual(keeper.book.rules, B.rules[1:2])


class TestQuestions(Checks):

    def test_why(self):
        desk, keeper = self.desk(R)
        self.check(desk, ("why", "0: app.db app.ui; 1: lib.net app.core; 2: app.db lib.log, lib.net app.core"),
                   ("allow lib.net app.core x", "ok 1"), ("why", "0: app.db app.ui"), ("cut app.db app.ui", "ok 2"), ("why", "-"))

    def test_chain(self):
        desk, keeper = self.desk()
        self.check(desk, ("chain lib app.db", "lib.net app.core app.db"), ("chain lib lib.log", "lib.net app.core app.db lib.log"),
                   ("chain lib.log app", "-"), ("chain x y", "-"), ("chain app app", "app.core app.db"), ("chain App lib", "no BadPath"),
                   ("chain app li..b", "no BadPath"), ("chain # #", "no BadPath"), ("allow lib.net app.core x", "ok 1"),
                   ("chain lib app.db", "lib.net app.core app.db"))

    def test_ring(self):
        desk, keeper = self.desk(R)
        self.check(desk, ("ring app.db", "app.db app.ui app.core"), ("ring app.ui", "app.ui app.core app.db"), ("ring lib.log", "-"),
                   ("ring app", "no NoModule"), ("ring x", "no NoModule"), ("ring X", "no BadPath"), ("ring a..b", "no BadPath"),
                   ("allow app.db app.ui x", "ok 1"), ("ring app.db", "app.db app.ui app.core"))

    def test_who(self):
        desk, keeper = self.desk()
        self.check(desk, ("who app.db", "app.core app.db app.ui lib.net"), ("who lib.log", "app.core app.db app.ui lib.log lib.net"),
                   ("who lib.net", "lib.net"), ("who x", "-"), ("who X", "no BadPath"), ("who app.", "no BadPath"),
                   ("allow lib.net app.core x", "ok 1"), ("who app.core", "app.core app.ui lib.net"))

    def test_cuts(self):
        desk, keeper = self.desk(R)
        self.check(desk, ("cuts", "app.db app.ui, lib.net app.core"), ("allow lib.net app.core x", "ok 1"), ("cuts", "app.db app.ui"),
                   ("allow app.db app.ui x", "ok 2"), ("cuts", "-"), ("norule 0", "ok 3"), ("norule 0", "ok 4"), ("norule 0", "ok 5"),
                   ("withdraw app.db app.ui", "ok 6"), ("cuts", "-"))
        five = Program.of(*[("a." + name, "b." + name) for name in "vwxyz"])
        desk, keeper = self.desk(five, (("apart", ("a", "b"), "direct"),))
        self.check(desk, ("cuts", "no TooMany"), ("allow a.w b.w x", "ok 1"), ("cuts", "a.v b.v, a.x b.x, a.y b.y, a.z b.z"))

    def test_program_and_book(self):
        desk, keeper = self.desk()
        lines = "app.core -> app.db; app.db -> lib.log; app.ui -> app.core; lib.log; lib.net -> app.core"
        self.check(desk, ("program", lines), ("allow lib.net app.core x", "ok 1"), ("program", lines),
                   ("book", "layers chain app.ui | app.core | app.db; forbid direct lib -> app; noring app lib"))
        desk, keeper = self.desk(EMPTY, ())
        self.check(desk, ("program", "-"), ("book", "-"), ("why", "-"), ("cuts", "-"), ("module a", "ok 1"), ("program", "a"))

    def test_questions_change_nothing(self):
        for cls in CLASSES:
            desk, keeper = self.desk(cls=cls)
            before = keeper.twin()
            for line in ("why", "chain lib app.db", "ring app.db", "who app.db", "cuts", "program", "book"):
                self.assertEqual(desk.say(line), desk.say(line))
            self.assertEqual((keeper == before, keeper.version, keeper.news, getattr(keeper, "log", ())), (True, 0, ((), ()), ()))


class TestOtherLines(Checks):

    def test_words_too_many_and_too_few(self):
        for cls in CLASSES:
            desk, keeper = self.desk(cls=cls)
            for word, many in (("module", 1), ("drop", 1), ("use", 2), ("cut", 2), ("rename", 2), ("merge", 2), ("withdraw", 2), ("norule", 1),
                               ("undo", 0), ("why", 0), ("chain", 2), ("ring", 1), ("who", 1), ("cuts", 0), ("program", 0), ("book", 0)):
                for other in range(5):
                    line = " ".join([word, *["0"] * other])
                    if other != many:
                        self.check(desk, (line, "what"))
                    else:
                        self.assertNotEqual(desk.say(line), "what")
            self.check(desk, ("allow", "what"), ("allow lib.net", "what"), ("allow lib.net app.core", "what"),
                       ("allow lib.net app.core x", "ok 1"))

    def test_other_words(self):
        desk, keeper = self.desk()
        for line in ("", " ", "     ", "Why", "WHY", "why?", "add_module web", "modules", "run", "twin", "what", "ok 1", "-", "#", "# why", "why #",
                     "why # x", "\twhy", "why\t", "why\n", "\n", "why\nwhy", "module\tweb", "undo.", "is_edit x", "say why", "history",
                     "a" * 2000, "rules noring a b", "norule", "rename app", "lenient"):
            self.check(desk, (line, "what"))
        self.assertEqual(keeper.version, 0)

    def test_blanks(self):
        desk, keeper = self.desk()
        self.check(desk, ("  module   web  ", "ok 1"), ("use    web app.ui", "ok 2"), ("   undo   ", "ok 1"), (" chain  lib   app.db ",
                   "lib.net app.core app.db"), ("module a\tb", "no BadPath"), ("module a\n", "no BadPath"))

    def test_no_strings(self):
        desk, keeper = self.desk()
        for value in any_values():
            if not isinstance(value, str):
                self.assertEqual(desk.say(value), "what")
                self.assertEqual(desk.history[-1], (None, "what"))
        self.assertEqual(desk.say(b"why"), "what")
        self.assertEqual(desk.say(("why",)), "what")
        self.assertEqual(keeper.version, 0)

    def test_any_strings(self):
        for value in any_values():
            if isinstance(value, str):
                desk, keeper = self.desk()
                self.check(desk, (value, "what"), ("module " + value, {"": "what", "no path": "what", "app": "no Clash", "app.db": "no Clash"}
                                                   .get(value, "no BadPath")))


class TestHistory(Checks):

    def test_the_last_twenty(self):
        for cls in CLASSES:
            desk, keeper = self.desk(cls=cls)
            self.assertEqual(desk.history, ())
            pairs = []
            for at in range(35):
                line = ["module a" + "b" * (at // 7), "why", None, "  undo ", " what now ", ["why"], "rule x"][at % 7]
                answer = desk.say(line)
                pairs.append((line if isinstance(line, str) else None, answer))
                self.assertEqual(desk.history, tuple(pairs[-20:]))
            self.assertEqual(len(desk.history), 20)
            self.assertIsInstance(desk.history, tuple)

    def test_it_can_only_be_read(self):
        desk, keeper = self.desk()
        with self.assertRaises(AttributeError):
            desk.history = ()

    def test_lines_stand_as_they_were_said(self):
        desk, keeper = self.desk()
        desk.say("  why  ")
        desk.say("  \tx")
        self.assertEqual(desk.history, (("  why  ", "1: lib.net app.core; 2: app.db lib.log, lib.net app.core"), ("  \tx", "what")))

    def test_arguments_stay_as_they_are(self):
        desk, keeper = self.desk()
        for value in ([["why"]], {"why": ["x"]}, (["why"],)):
            kept = copy.deepcopy(value)
            self.assertEqual([desk.say(value), desk.say(value), value], ["what", "what", kept])


if __name__ == "__main__":
    unittest.main()
