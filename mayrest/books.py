"""Books: rules that stand together, as objects that never change."""

from mayrest.bounds import MAX_RULES
from mayrest.breaks import find_break
from mayrest.cells import gap
from mayrest.errors import BadBook, TooMany
from mayrest.programs import Program
from mayrest.rules import rule_error


def book_error(rules):
    """The first reason why the value, of any kind, is not the rules of a book, or None."""
    if not isinstance(rules, tuple) or len(rules) > MAX_RULES:
        return (None, "rules")
    for index, rule in enumerate(rules):
        word = rule_error(rule)
        if word is not None:
            return (index, word)
        if rule in rules[:index]:
            return (index, "again")
    return None


def findings_of(rules, program):
    """For each of the rules that the program breaks, its index and its first evidence."""
    pairs = [(index, find_break(program, rule)) for index, rule in enumerate(rules)]
    return tuple([(index, evidence) for index, evidence in pairs if evidence is not None])


class Book:
    """Rules in their order."""

    def __init__(self, rules):
        error = book_error(rules)
        if error is not None:
            raise BadBook(error)
        self._rules = rules

    @property
    def rules(self):
        return self._rules

    def __call__(self, program):
        """The findings: for each rule that the program breaks, its index and its first evidence."""
        return findings_of(self._rules, program)

    def __len__(self):
        return len(self._rules)

    def __contains__(self, value):
        if not isinstance(value, Program):
            return False
        return all([find_break(value, rule) is None for rule in self._rules])

    def __and__(self, other):
        rules = (*self._rules, *[rule for rule in other.rules if rule not in self._rules])
        if len(rules) > MAX_RULES:
            raise TooMany(MAX_RULES)
        return Book(rules)

    def __sub__(self, other):
        return Book(tuple([rule for rule in self._rules if rule not in other.rules]))

    def implies(self, other):
        """Whether every program that keeps this book keeps the other one."""
        return gap(self._rules, other.rules) is None

    def __eq__(self, other):
        return isinstance(other, Book) and self.rules == other.rules

    def __str__(self):
        return f"{len(self._rules)} rules"


def has_index(book, value):
    """Whether the value, of any kind, is the index of a rule of the book."""
    return isinstance(value, int) and not isinstance(value, bool) and 0 <= value < len(book)
