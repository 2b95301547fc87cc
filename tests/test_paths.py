"""Point 4: the paths of mayrest.paths, and point 3 as far as it speaks of them."""

import copy
import inspect
import itertools
import unittest

from mayrest import paths
from mayrest.paths import covered, covers, is_path, last_name, overlap, parent
from tests.samples import other_values

LETTERS = "abcdefghijklmnopqrstuvwxyz"
ASCII = [chr(code) for code in range(128)]

PARAMETERS = {
    "is_path": ("value",),
    "covers": ("path", "other"),
    "overlap": ("path", "other"),
    "parent": ("path",),
    "last_name": ("path",),
    "covered": ("paths", "path"),
}


def joined(rows):
    """The paths whose names stand in the rows."""
    return [".".join(row) for row in rows]


# All paths of up to three of these names, some of which begin other ones.
FAMILY = joined(row for many in (1, 2, 3) for row in itertools.product(("a", "ab", "b"), repeat=many))


def begins(path, other):
    """Whether the names of other begin with those of path: covers, told by lists of names."""
    names = path.split(".")
    return other.split(".")[:len(names)] == names


class TestInterface(unittest.TestCase):

    def test_each_function_is_defined_in_this_file(self):
        for name in PARAMETERS:
            with self.subTest(function=name):
                self.assertEqual(getattr(paths, name).__module__, "mayrest.paths")

    def test_each_function_has_its_arguments(self):
        for name, parameters in PARAMETERS.items():
            with self.subTest(function=name):
                self.assertEqual(tuple(inspect.signature(getattr(paths, name)).parameters), parameters)

    def test_the_example_of_point_4(self):
        told = [is_path("app.db"), is_path("app..db"), covers("app", "app.db"), covers("app", "apple"),
                overlap("app.db", "app"), parent("app.db.sql"), covered(("lib", "app"), "app.ui")]
        self.assertEqual(repr(told), "[True, False, True, False, True, 'app.db', 'app']")


class TestIsPath(unittest.TestCase):

    def check(self, value, expected):
        with self.subTest(value=repr(value)[:60]):
            self.assertIs(is_path(value), expected)
            self.assertIs(is_path(value), expected)

    def test_one_name_of_one_to_eight_letters(self):
        for many in range(1, 9):
            self.check("a" * many, True)
            self.check("z" * many, True)

    def test_each_letter(self):
        for letter in LETTERS:
            self.check(letter, True)
            self.check("app." + letter, True)

    def test_one_to_six_names(self):
        for many in range(1, 7):
            self.check(".".join(["a"] * many), True)
            self.check(".".join(["abcdefgh"] * many), True)

    def test_names_of_each_length_at_each_place(self):
        for many in range(1, 7):
            for at in range(many):
                for size in range(0, 11):
                    names = ["app"] * many
                    names[at] = "q" * size
                    self.check(".".join(names), 1 <= size <= 8)

    def test_seven_names_and_more(self):
        for many in (7, 8, 9, 100, 1000):
            self.check(".".join(["a"] * many), False)

    def test_the_empty_string(self):
        self.check("", False)

    def test_dots_without_names(self):
        for value in (".", "..", ".app", "app.", "app..db", ".app.db", "app.db.", "app...db", "a.b.c.d.e.f.",
                      ".a.b.c.d.e.f", "a.b.c.d.e.", ".a.b.c.d.e"):
            self.check(value, False)

    def test_every_other_character_anywhere(self):
        for character in ASCII:
            if character not in LETTERS and character != ".":
                for value in ("{}", "{}app", "app{}", "a{}p", "app.{}", "app.{}db", "app.db{}", "app{}.db",
                              "app.d{}b", "{}app.db"):
                    self.check(value.format(character), False)

    def test_every_short_string_of_some_characters(self):
        for many in range(0, 6):
            for row in itertools.product("az.A", repeat=many):
                value = "".join(row)
                self.check(value, "A" not in value and "" not in value.split("."))

    def test_characters_beyond_a_to_z_that_are_letters(self):
        for character in ("\u00e9", "\u00df", "\u0430", "\uff41"):
            self.check(character, False)
            self.check("app." + character, False)

    def test_long_strings(self):
        for value in ("a" * 9, "a" * 2000, "a." * 1000, ".a" * 1000, "." * 2000, " " * 2000, "app\n" * 500,
                      "abcdefgh." * 222, "".join(ASCII) * 15):
            self.check(value, False)

    def test_values_that_are_no_strings(self):
        for value in other_values():
            self.check(value, False)

    def test_values_that_hold_a_path(self):
        for value in (("app",), ["app"], {"app": "app"}, ("a", "p", "p"), ("app", "."), [["app"]]):
            self.check(value, False)

    def test_equal_strings_are_told_alike(self):
        for names in (["app", "db"], ["app", "", "db"], ["App"]):
            self.assertIs(is_path(".".join(names)), is_path(".".join(list(names))))

    def test_arguments_are_not_changed(self):
        for value in (["app", ["db"]], {"app": ["db"]}, ("app", ["db"])):
            before = copy.deepcopy(value)
            is_path(value)
            self.assertEqual(value, before)


class TestCovers(unittest.TestCase):

    def check(self, path, other, expected):
        with self.subTest(path=path, other=other):
            self.assertIs(covers(path, other), expected)
            self.assertIs(covers(path, other), expected)

    def test_a_path_covers_itself(self):
        for path in ("a", "app", "app.db", "a.b.c.d.e.f"):
            self.check(path, path, True)

    def test_a_path_covers_what_begins_with_it_and_a_dot(self):
        self.check("app", "app.db", True)
        self.check("app", "app.db.sql", True)
        self.check("app.db", "app.db.sql", True)

    def test_a_path_does_not_cover_what_is_above_it(self):
        self.check("app.db", "app", False)
        self.check("app.db.sql", "app", False)
        self.check("app.db.sql", "app.db", False)

    def test_the_beginning_of_a_name_covers_nothing(self):
        self.check("app", "apple", False)
        self.check("apple", "app", False)
        self.check("app", "apple.db", False)
        self.check("app.d", "app.db", False)
        self.check("app.db", "app.d", False)
        self.check("app.d", "app.db.sql", False)

    def test_a_later_name_covers_nothing(self):
        self.check("db", "app.db", False)
        self.check("app", "lib.app", False)
        self.check("app.db", "lib.app.db", False)

    def test_paths_that_have_nothing_in_common(self):
        self.check("app", "lib", False)
        self.check("app.db", "app.ui", False)
        self.check("app.db", "lib.db", False)

    def test_six_names(self):
        names = ["aaaaaaaa", "b", "cc", "ddd", "eeee", "ffffffff"]
        whole = ".".join(names)
        for many in range(1, 7):
            self.check(".".join(names[:many]), whole, True)
            self.check(whole, ".".join(names[:many]), many == 6)
        self.check("a.b.c.d.e.f", "a.b.c.d.e.g", False)
        self.check("a.b.c.d.e.f", "a.b.c.d.e.ff", False)
        self.check("b.b.c.d.e.f", "a.b.c.d.e.f", False)

    def test_every_pair_of_a_family(self):
        for path in FAMILY:
            for other in FAMILY:
                self.check(path, other, begins(path, other))


class TestOverlap(unittest.TestCase):

    def check(self, path, other, expected):
        with self.subTest(path=path, other=other):
            self.assertIs(overlap(path, other), expected)
            self.assertIs(overlap(other, path), expected)
            self.assertIs(overlap(path, other), expected)

    def test_a_path_overlaps_itself(self):
        for path in ("a", "app", "app.db", "a.b.c.d.e.f"):
            self.check(path, path, True)

    def test_a_path_overlaps_what_it_covers_in_both_directions(self):
        self.check("app", "app.db", True)
        self.check("app.db.sql", "app", True)
        self.check("a", "a.b.c.d.e.f", True)
        self.check("a.b.c.d.e", "a.b.c.d.e.f", True)

    def test_other_paths_do_not_overlap(self):
        self.check("app", "apple", False)
        self.check("app", "apple.db", False)
        self.check("app.d", "app.db", False)
        self.check("app.db", "app.ui", False)
        self.check("db", "app.db", False)
        self.check("app", "lib", False)
        self.check("a.b.c.d.e.f", "a.b.c.d.e.g", False)
        self.check("a.b.c.d.e.f", "a.b.c.d.e.ff", False)

    def test_every_pair_of_a_family(self):
        for path in FAMILY:
            for other in FAMILY:
                self.check(path, other, begins(path, other) or begins(other, path))


class TestParentAndLastName(unittest.TestCase):

    def check(self, path, above, last):
        with self.subTest(path=path):
            for _ in range(2):
                self.assertEqual(parent(path), above)
                self.assertEqual(last_name(path), last)

    def test_one_name(self):
        for path in ("a", "app", "abcdefgh"):
            self.assertIs(parent(path), None)
            self.check(path, None, path)

    def test_two_and_three_names(self):
        self.check("app.db", "app", "db")
        self.check("app.db.sql", "app.db", "sql")
        self.check("a.a", "a", "a")

    def test_six_names(self):
        self.check("a.b.c.d.e.f", "a.b.c.d.e", "f")
        self.check("aaaaaaaa.b.cc.ddd.eeee.ffffffff", "aaaaaaaa.b.cc.ddd.eeee", "ffffffff")

    def test_parent_and_last_name_make_the_path(self):
        for path in FAMILY:
            above, last = parent(path), last_name(path)
            self.assertEqual([*([] if above is None else above.split(".")), last], path.split("."))
            self.assertIs(is_path(last), True)


class TestCovered(unittest.TestCase):

    def check(self, several, path, expected):
        with self.subTest(several=several, path=path):
            self.assertEqual(covered(several, path), expected)
            self.assertEqual(covered(several, path), expected)

    def test_the_empty_tuple(self):
        self.assertIs(covered((), "app"), None)

    def test_none_covers(self):
        for several in (("lib",), ("lib", "apple", "ap", "db", "app.db.sql", "app.ui")):
            self.assertIs(covered(several, "app.db"), None)
        self.check(("app.db",), "app", None)

    def test_one_covers(self):
        self.check(("app",), "app", "app")
        self.check(("lib", "app"), "app.ui", "app")
        self.check(("app", "lib"), "app.ui", "app")
        self.check(("apple", "app.d", "app.db"), "app.db", "app.db")

    def test_the_first_of_several_is_returned_and_not_the_longest(self):
        self.check(("app", "app.db", "app.db.sql"), "app.db.sql", "app")
        self.check(("app.db", "app", "app.db.sql"), "app.db.sql", "app.db")
        self.check(("lib", "app.db.sql", "app.db", "app"), "app.db.sql", "app.db.sql")

    def test_the_first_in_the_tuple_is_returned_and_not_the_first_in_order(self):
        self.check(("lib", "app.ui", "app"), "app.ui.menu", "app.ui")

    def test_equal_paths(self):
        self.check(("app", "app"), "app.db", "app")
        self.check(("lib", "app", "lib", "app", "app.db"), "app.db", "app")
        self.check(("lib", "lib"), "app", None)
        first, second = ".".join(["app", "db"]), ".".join(["app", "db"])
        self.assertIs(covered(("lib", first, second), "app.db.sql"), first)

    def test_eight_paths_of_six_names(self):
        several = tuple("a.b.c.d.e." + name for name in "abcdefgh")
        for path in several:
            self.check(several, path, path)
        self.check(several, "a.b.c.d.e.i", None)
        self.check(several[:7] + ("a",), "a.b.c.d.e.i", "a")

    def test_every_three_of_some_paths(self):
        some = FAMILY[:12]
        for several in itertools.product(some, repeat=3):
            for path in ("a", "ab.a", "a.b.ab"):
                expected = [one for one in several if begins(one, path)] + [None]
                self.assertEqual(covered(several, path), expected[0])


if __name__ == "__main__":
    unittest.main()
