"""Point 29: texts, by mayrest.texts; point 3, as far as it speaks of them."""

import copy
import inspect
import random
import unittest

from mayrest import texts
from mayrest.books import Book
from mayrest.errors import BadText, RestError
from mayrest.programs import Program
from mayrest.texts import book_text, program_text, read_book, read_program, read_rule, rule_text
from tests.models import CROWD, EMPTY, P, Q, crowded, longest_ring, some_programs
from tests.rulings import CELL_RULES, EIGHT, RULES
from tests.samples import any_values

B = Book((("layers", (("app.ui",), ("app.core",), ("app.db",)), "chain"), ("forbid", ("lib",), ("app",), "direct"),
          ("noring", ("app", "lib"))))

# A rule of each form with its text.
TEXTS = [
    (("forbid", ("a", "b.c"), ("d",), "direct"), "forbid direct a b.c -> d"),
    (("forbid", ("b",), ("d", "a", "c"), "chain"), "forbid chain b -> d a c"),
    (("layers", (("c", "a"), ("b",), ("d.e", "d.f")), "chain"), "layers chain c a | b | d.e d.f"),
    (("layers", (("a",), ("b",)), "direct"), "layers direct a | b"),
    (("stairs", (("b", "a"), ("c",), ("d",))), "stairs b a | c | d"),
    (("apart", ("b", "a", "c"), "direct"), "apart direct b a c"),
    (("apart", ("a", "b"), "chain"), "apart chain a b"),
    (("only", ("b", "a"), ("d", "c")), "only b a <- d c"),
    (("only", ("a",), ()), "only a"),
    (("only", ("b", "a"), ()), "only b a"),
    (("face", "a", ("a.c", "a.b.d")), "face a : a.c a.b.d"),
    (("face", "a.b.c.d", ()), "face a.b.c.d"),
    (("noring", ("c", "a", "b")), "noring c a b"),
    # The words of the forms are names, too.
    (("noring", ("direct", "noring", "a")), "noring direct noring a"),
    (("forbid", ("chain",), ("b", "direct"), "direct"), "forbid direct chain -> b direct"),
    (("stairs", (("chain", "a"), ("stairs",))), "stairs chain a | stairs"),
    (("only", ("direct", "a"), ("only",)), "only direct a <- only"),
    (("apart", ("apart", "chain"), "chain"), "apart chain apart chain"),
]

NO_RULES = [
    "forbid", "forbid direct", "forbid direct a", "forbid direct a ->", "forbid direct -> a", "forbid a -> b", "forbid never a -> b",
    "forbid direct a -> b -> c", "forbid direct a->b", "forbid direct a -> a", "forbid direct a <- b", "forbid -> direct a -> b",
    "forbid direct a b", "forbid direct a , b -> c", "Forbid direct a -> b", "forbid chain a.b.c.d.e -> f",
    "layers", "layers chain", "layers chain a", "layers chain a |", "layers chain | a", "layers chain a | | b", "layers chain a b",
    "layers a | b", "layers chain a | b | c | d | e | f", "layers chain a | b |", "layers direct a|b", "layers chain a | a.b",
    "layers chain a b c d e | f", "stairs", "stairs a", "stairs a |", "stairs | a | b", "stairs a b",
    "stairs a | b | a", "apart", "apart a b", "apart chain", "apart chain a", "apart chain a | b", "apart chain a a",
    "apart direct a b c d e f g", "only", "only a <-", "only <- b", "only <-", "only a <- b <- c", "only a <- a", "only a -> b", "only a b a",
    "only a b c d e f g", "only a <-b", "face", "face a :", "face : a.b", "face a b", "face a a.b", "face a b : a.c",
    "face a : b", "face a : a", "face a : a.b : a.c", "face a: a.b", "face a : a.b a.b.c", "face a : a.b a.b", "noring", "noring a",
    "noring a a.b", "noring a -> b", "noring a b c d e f g", "rule", "a -> b", "a", "->", "|", "noring a B",
    "noring a b.", "noring\ta\tb", "noring a\tb", "noring a b\r", "only a <- b\x0b",
]


class Checks(unittest.TestCase):

    def check_bad(self, call, value, line, code):
        with self.subTest(value=repr(value)[:90]):
            for _ in range(2):
                with self.assertRaises(BadText) as caught:
                    call(value)
                self.assertEqual((caught.exception.line, caught.exception.code), (line, code))
                self.assertIsInstance(caught.exception, RestError)


class TestInterface(unittest.TestCase):

    def test_each_function_is_defined_in_this_file_with_its_arguments(self):
        for name, parameter in (("program_text", "program"), ("rule_text", "rule"), ("book_text", "book"), ("read_program", "value"),
                                ("read_rule", "value"), ("read_book", "value")):
            function = getattr(texts, name)
            self.assertEqual(function.__module__, "mayrest.texts")
            self.assertEqual(list(inspect.signature(function).parameters), [parameter])

    def test_the_examples_of_point_29(self):
        told = [program_text(Q), rule_text(B.rules[0]), read_rule("only a  <- b c # d"),
                read_program("a -> b\n\n b # c") == Program.of(("a", "b"))]
        self.assertEqual(told, ["app.ui -> lib.net\nlib.log -> app.ui\nlib.net\n", "layers chain app.ui | app.core | app.db",
                                ("only", ("a",), ("b", "c")), True])
        with self.assertRaises(BadText) as caught:
            read_program("a -> c\nb -> a a\n")
        self.assertEqual((caught.exception.line, caught.exception.code), (2, 4))


class TestThereAndBack(unittest.TestCase):

    def test_programs(self):
        self.assertEqual([program_text(EMPTY), program_text(Program(("a",), ()))], ["", "a\n"])
        self.assertEqual(program_text(P), "app.core -> app.db\napp.db -> lib.log\napp.ui -> app.core\nlib.log\nlib.net -> app.core\n")
        self.assertEqual(program_text(Program(("c", "a", "b"), (("b", "c"), ("b", "a"), ("a", "c")))), "a -> c\nb -> a c\nc\n")
        for program in [EMPTY, P, Q, crowded(95), longest_ring(), Program(CROWD, ()), *some_programs(95, 60, 7, 20)]:
            text = program_text(program)
            self.assertEqual(read_program(text), program)
            self.assertEqual(read_program(text.rstrip("\n")), program)
            self.assertEqual(len(text.split("\n")), len(program.modules) + 1)

    def test_rules(self):
        for rule, text in TEXTS:
            self.assertEqual(rule_text(rule), text)
            self.assertEqual(read_rule(text), rule)
            self.assertEqual(read_book(text), Book((rule,)))
        for rule in [*RULES, *CELL_RULES, *EIGHT]:
            self.assertEqual(read_rule(rule_text(rule)), rule)
            self.assertNotIn("\n", rule_text(rule))

    def test_books(self):
        self.assertEqual([book_text(Book(())), book_text(Book((TEXTS[8][0], TEXTS[12][0])))], ["", "only a\nnoring c a b\n"])
        rng = random.Random(96)
        for _ in range(60):
            book = Book(tuple(rng.sample(RULES, rng.randint(0, 8))))
            text = book_text(book)
            self.assertEqual(text, "".join(rule_text(rule) + "\n" for rule in book.rules))
            self.assertEqual(read_book(text), book)
            self.assertEqual(read_book(text.rstrip("\n")), book)


class TestWhatIsSkipped(unittest.TestCase):

    def spread(self, rng, text):
        """The text with more blanks, remarks and empty lines."""
        lines = []
        for line in text.split("\n"):
            words = [" " * rng.randint(1, 3) + word for word in line.split(" ")]
            lines.append("".join(words)[rng.randint(0, 1):] + " " * rng.randint(0, 2) + rng.choice(["", " #", " # a -> b", " #x\t| #"]))
            lines.extend(rng.choice([[], [""], ["   "], ["#"], ["  # noring a b"], ["#\ta"]]))
        return "\n".join(lines)

    def test_blanks_remarks_and_empty_lines(self):
        rng = random.Random(97)
        for program in [EMPTY, P, Q, *some_programs(97, 30, 6, 12)]:
            self.assertEqual(read_program(self.spread(rng, program_text(program))), program)
        for _ in range(30):
            book = Book(tuple(rng.sample(RULES, rng.randint(0, 8))))
            self.assertEqual(read_book(self.spread(rng, book_text(book))), book)
        for rule, text in TEXTS:
            self.assertEqual(read_rule("   " + text.replace(" ", "  ") + "   # " + text), rule)
            self.assertEqual(read_rule(text + " #"), rule)

    def test_any_order(self):
        self.assertEqual(read_program("b -> c a\na\nc -> a\n"), Program(("a", "b", "c"), (("b", "a"), ("b", "c"), ("c", "a"))))
        rng = random.Random(98)
        for program in some_programs(98, 30, 6, 12):
            lines = program_text(program).splitlines()
            rng.shuffle(lines)
            self.assertEqual(read_program("\n".join(lines)), program)

    def test_nothing_at_all(self):
        for text in ("", "\n", "\n\n  \n", "#", " # a b\n#", "    "):
            self.assertEqual([read_program(text), read_book(text)], [EMPTY, Book(())])

    def test_a_sign_in_the_middle_of_a_word_is_no_remark(self):
        for text in ("a#", "a -> b#\nb", "a -> b#c\nb"):
            with self.assertRaises(BadText):
                read_program(text)
        with self.assertRaises(BadText):
            read_rule("noring a b#")
        self.assertEqual(read_program("a #-> b"), Program(("a",), ()))


class TestBadRule(Checks):

    def test_no_string(self):
        for value in any_values():
            if not isinstance(value, str):
                for call in (read_rule, read_book, read_program):
                    self.check_bad(call, value, 0, 0)
        for call in (read_rule, read_book, read_program):
            self.check_bad(call, b"noring a b", 0, 0)

    def test_words_that_are_not_those_of_a_rule(self):
        for text in NO_RULES:
            self.check_bad(read_rule, text, 1, 1)
            self.check_bad(read_book, text, 1, 1)
            self.check_bad(read_book, "noring a b\n\n" + text + "\nnoring a b", 3, 1)
        for text in ("", " ", "#", "# noring a b"):
            self.check_bad(read_rule, text, 1, 1)

    def test_a_line_feed_in_a_rule(self):
        for text in ("noring a b\n", "\nnoring a b", "noring a\nb", "noring a b # x\n", "\n", "noring a b\nnoring a b"):
            self.check_bad(read_rule, text, 1, 1)

    def test_remarks_take_words_away(self):
        for text in ("#noring a b", "noring #a b", "noring a #b", "only a <- #b", "forbid direct a -> # b"):
            self.check_bad(read_rule, text, 1, 1)


class TestBadBook(Checks):

    def test_the_rule_of_an_earlier_line(self):
        self.check_bad(read_book, "noring a b\nnoring b a\nnoring  a b #", 3, 2)
        self.check_bad(read_book, "noring a b\nnoring a b\nx", 2, 2)
        self.check_bad(read_book, "x\nnoring a b\nnoring a b", 1, 1)

    def test_so_many_rules(self):
        eight = book_text(Book(EIGHT))
        self.assertEqual(len(read_book(eight)), 8)
        self.check_bad(read_book, eight + "noring x y", 9, 5)
        self.check_bad(read_book, "\n" + eight + "\n\nnoring x y\nx", 12, 5)
        self.check_bad(read_book, eight + rule_text(EIGHT[2]), 9, 2)
        self.check_bad(read_book, eight + "noring x", 9, 1)
        self.check_bad(read_book, eight + "#\nnoring x y\nnoring x", 10, 5)


class TestBadProgram(Checks):

    def test_words_that_are_not_those_of_a_line(self):
        for line in ("A", "a.", ".a", "a..b", "a b", "a ->", "-> a", "->", "a b -> c", "a -> b -> c", "a -> b c.", "a - b", "a->b", "a ->b",
                     "a -> ->", "a -> B", "abcdefghi", "a.b.c.d.e.f.g", "a -> a.b.c.d.e.f.g", "a\t", "a\tb", "\ta", "a -> b,c", "a\r",
                     "a -> -> b", "a <- b", "a : b"):
            self.check_bad(read_program, line, 1, 1)
            self.check_bad(read_program, "x -> y\n\ny\n" + line + "\nx", 4, 1)

    def test_paths_that_overlap(self):
        self.check_bad(read_program, "a\na", 2, 2)
        self.check_bad(read_program, "a\nb\n\na.c", 4, 2)
        self.check_bad(read_program, "a.c -> b\nb\na -> b", 3, 2)
        self.assertEqual(read_program("app\napple\nap").modules, ("ap", "app", "apple"))

    def test_uses_that_stand_twice_or_are_the_own_one(self):
        self.check_bad(read_program, "a -> b b\nb", 1, 4)
        self.check_bad(read_program, "a\nb -> c a d c\nc\nd", 2, 4)
        self.check_bad(read_program, "a -> a", 1, 4)
        self.check_bad(read_program, "b\na -> b a", 2, 4)
        self.check_bad(read_program, "a -> x x", 1, 4)

    def test_so_many_modules(self):
        names = [one + other for one in "abcde" for other in "vwxyz"]
        self.assertEqual(len(read_program("\n".join(names[:24])).modules), 24)
        self.check_bad(read_program, "\n".join(names), 25, 5)
        self.check_bad(read_program, "\n#\n" + "\n".join(names[:24]) + "\nzz -> zy", 27, 5)
        self.check_bad(read_program, "\n".join([*names[:24], "zz -> zy zy"]), 25, 4)
        self.check_bad(read_program, "\n".join([*names[:24], "av.b"]), 25, 2)
        self.check_bad(read_program, "\n".join([*names[:24], "Zz"]), 25, 1)
        self.check_bad(read_program, "\n".join([*names, "Zz"]), 25, 5)

    def test_uses_of_no_module(self):
        self.check_bad(read_program, "a -> b", 1, 3)
        self.check_bad(read_program, "b\na -> b c\nd -> e", 2, 3)
        self.check_bad(read_program, "b.x\na -> b", 2, 3)
        self.check_bad(read_program, "b\na -> b.x", 2, 3)

    def test_so_many_uses(self):
        program = crowded(99)
        free = [(user, used) for user in CROWD for used in CROWD if user != used and (user, used) not in program]
        self.assertEqual(len(read_program(program_text(program))), 200)
        lines = []
        for module in CROWD:
            useds = [used for user, used in [*program.uses, free[0]] if user == module]
            lines.append(" ".join([module, "->", *useds] if useds else [module]))
        self.check_bad(read_program, "\n".join(lines), 0, 6)
        self.check_bad(read_program, "\n".join(line + (" x" if "->" in line else "") for line in lines), 1, 3)

    def test_which_comes_first(self):
        # Of one line: 1, 2, 4, 5; of several lines, the first one, but for 3, which comes behind all of these.
        self.check_bad(read_program, "a\na -> a a b!", 2, 1)
        self.check_bad(read_program, "a\na -> b b", 2, 2)
        self.check_bad(read_program, "a -> b\na.x -> b", 2, 2)
        self.check_bad(read_program, "a -> b\nc -> c", 2, 4)
        self.check_bad(read_program, "a -> b\nc -> a!", 2, 1)
        self.check_bad(read_program, "a -> a\nb!", 1, 4)
        self.check_bad(read_program, "a\na\nb -> b\nc!", 2, 2)


class TestConventions(unittest.TestCase):

    def test_arguments_stay_as_they_are_and_equal_calls_return_equal_results(self):
        for program, rules in [(P, B.rules), (crowded(94), EIGHT), (EMPTY, ())]:
            kept = copy.deepcopy((program.modules, program.uses, rules))
            self.assertEqual(program_text(program), program_text(program))
            self.assertEqual(book_text(Book(rules)), book_text(Book(rules)))
            self.assertEqual(read_program(program_text(program)), read_program(program_text(program)))
            self.assertEqual(read_book(book_text(Book(rules))), read_book(book_text(Book(rules))))
            self.assertEqual((program.modules, program.uses, rules), kept)
        values = any_values()
        before = [repr(value) for value in values]
        for value in values:
            for call in (read_rule, read_book, read_program):
                try:
                    call(value)
                except BadText:
                    pass
        self.assertEqual([repr(value) for value in values], before)

    def test_any_strings(self):
        for value in any_values():
            if isinstance(value, str):
                for call in (read_rule, read_book, read_program):
                    try:
                        call(value)
                    except BadText:
                        pass


if __name__ == "__main__":
    unittest.main()
