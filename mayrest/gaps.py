"""Books for all programs: whether a book asks for all that another one asks for, and needless rules."""

from mayrest.books import Book
from mayrest.cells import gap, listed_paths
from mayrest.paths import covers
from mayrest.programs import Program


def listed(book):
    """The paths that stand anywhere in the rules of the book, ascending."""
    return tuple(listed_paths(book.rules))


def cell(book, path):
    """The longest listed path of the book that covers the path, or None if none does."""
    return max([name for name in listed(book) if covers(name, path)], key=len, default=None)


def find_gap(one, other):
    """A program with the fewest uses that keeps the one book and breaks the other, or None."""
    uses = gap(one.rules, other.rules)
    if uses is None:
        return None
    return Program.of(*uses)


def gap_holds(one, other, value):
    """Whether the value, of any kind, is a program that keeps the one book and breaks the other."""
    return isinstance(value, Program) and value in one and value not in other


def _without(rules, rule):
    """The rules but for this one."""
    return tuple([other for other in rules if other != rule])


def needless(book):
    """The indexes of the rules that every program keeps which keeps all the others, ascending."""
    return tuple([index for index, rule in enumerate(book.rules)
                  if gap(_without(book.rules, rule), (rule,)) is None])


def lean(book):
    """The book without the rules that are needless when their turn comes, from the last one on."""
    left = book.rules
    for rule in book.rules[::-1]:
        others = _without(left, rule)
        if gap(others, (rule,)) is None:
            left = others
    return Book(left)


def is_alike(one, other):
    """Whether the same programs keep both books."""
    return gap(one.rules, other.rules) is None and gap(other.rules, one.rules) is None
