"""Edits: how each of them changes a state, which is a program, a book, allowances and findings.

Allowances are an ascending tuple of pairs of a use and a reason. A state never changes: an edit makes
a new one.
"""

from mayrest.bounds import MAX_MODULES, MAX_NAMES, MAX_RULES, MAX_USES
from mayrest.books import Book, findings_of, has_index
from mayrest.errors import (BadPath, BadReason, BadRule, Clash, InUse, Itself, NoAllowance, NoModule, NoPart, NoRule,
                            NoUse, Taken, TooMany)
from mayrest.paths import is_path, overlap
from mayrest.programs import Program
from mayrest.rules import rule_error

_MAX_REASON = 40


def judged(program, allowances):
    """The program without the allowed uses."""
    return program - Program(program.modules, tuple([use for use, reason in allowances]))


def state_of(program, book, allowances):
    """The state with these, and with the findings of the book in the program without the allowed uses."""
    return (program, book, allowances, findings_of(book.rules, judged(program, allowances)))


def _clashes(path, modules):
    """Whether the path overlaps one of the modules."""
    return any([overlap(path, module) for module in modules])


def _add_module(state, path):
    program, book, allowances, _ = state
    if not is_path(path):
        raise BadPath(path)
    if _clashes(path, program.modules):
        raise Clash(path)
    if len(program.modules) == MAX_MODULES:
        raise TooMany(MAX_MODULES)
    return state_of(Program((*program.modules, path), program.uses), book, allowances)


def _drop_module(state, path):
    program, book, allowances, _ = state
    if path not in program.modules:
        raise NoModule(path)
    if any([path in use for use in program.uses]):
        raise InUse(path)
    modules = tuple([module for module in program.modules if module != path])
    return state_of(Program(modules, program.uses), book, allowances)


def _refuse_no_modules(program, path, other):
    """Raise NoModule with the first of two values, of any kinds, that is no module, or Itself if they are equal."""
    if path not in program.modules:
        raise NoModule(path)
    if other not in program.modules:
        raise NoModule(other)
    if path == other:
        raise Itself(path)


def _add_use(state, user, used):
    program, book, allowances, _ = state
    _refuse_no_modules(program, user, used)
    if (user, used) in program.uses:
        raise Taken((user, used))
    if len(program) == MAX_USES:
        raise TooMany(MAX_USES)
    return state_of(Program(program.modules, (*program.uses, (user, used))), book, allowances)


def _allowances_without(allowances, use):
    """The allowances but for that of the use, if it has one."""
    return tuple([(allowed, reason) for allowed, reason in allowances if allowed != use])


def _cut_use(state, user, used):
    program, book, allowances, _ = state
    if (user, used) not in program.uses:
        raise NoUse((user, used))
    uses = tuple([use for use in program.uses if use != (user, used)])
    return state_of(Program(program.modules, uses), book, _allowances_without(allowances, (user, used)))


def _renamed(names, use):
    """The use between the modules of these names, or of the old ones where there are none."""
    user, used = use
    return (names.get(user, user), names.get(used, used))


def _names_behind(program, path, new):
    """For each module that path covers, the path in which new stands in its place; they stand ascending."""
    return {module: new + module[len(path):] for module in program.within(path)}


def _rename(state, path, new):
    program, book, allowances, _ = state
    if not is_path(path) or len(program.within(path)) == 0:
        raise NoPart(path)
    if not is_path(new):
        raise BadPath(new)
    names = _names_behind(program, path, new)
    for longer in sorted(names.values()):
        if len(longer.split(".")) > MAX_NAMES:
            raise BadPath(longer)
    others = [module for module in program.modules if module not in names]
    for longer in sorted(names.values()):
        if _clashes(longer, others):
            raise Clash(longer)
    modules = tuple([names.get(module, module) for module in program.modules])
    uses = tuple([_renamed(names, use) for use in program.uses])
    reasons = tuple(sorted([(_renamed(names, use), reason) for use, reason in allowances]))
    return state_of(Program(modules, uses), book, reasons)


def _merge(state, path, other):
    program, book, allowances, _ = state
    _refuse_no_modules(program, path, other)
    modules = tuple([module for module in program.modules if module != other])
    names = {other: path}
    # A set, as two uses may become the same one.
    uses = sorted({_renamed(names, use) for use in program.uses})
    reasons = tuple([(use, reason) for use, reason in allowances if other not in use])
    return state_of(Program(modules, tuple([use for use in uses if use != (path, path)])), book, reasons)


def _add_rule(state, rule):
    program, book, allowances, _ = state
    word = rule_error(rule)
    if word is not None:
        raise BadRule(word)
    if rule in book.rules:
        raise Taken(rule)
    if len(book) == MAX_RULES:
        raise TooMany(MAX_RULES)
    return state_of(program, Book((*book.rules, rule)), allowances)


def _drop_rule(state, index):
    program, book, allowances, _ = state
    if not has_index(book, index):
        raise NoRule(index)
    return state_of(program, Book((*book.rules[:index], *book.rules[index + 1:])), allowances)


def _is_reason(value):
    """Whether the value, of any kind, may stand as a reason."""
    return (isinstance(value, str) and 1 <= len(value) <= _MAX_REASON
            and all([" " <= letter <= "~" for letter in value]))


def _allow(state, use, reason):
    program, book, allowances, _ = state
    if use not in program.uses:
        raise NoUse(use)
    if not _is_reason(reason):
        raise BadReason(reason)
    return state_of(program, book, tuple(sorted([*_allowances_without(allowances, use), (use, reason)])))


def _withdraw(state, use):
    program, book, allowances, _ = state
    if use not in [allowed for allowed, reason in allowances]:
        raise NoAllowance(use)
    return state_of(program, book, _allowances_without(allowances, use))


# How many arguments each edit has.
ARGUMENTS = {
    "add_module": 1,
    "drop_module": 1,
    "add_use": 2,
    "cut_use": 2,
    "rename": 2,
    "merge": 2,
    "add_rule": 1,
    "drop_rule": 1,
    "allow": 2,
    "withdraw": 1,
}


def is_change(value):
    """Whether the value, of any kind, is a tuple of the name of an edit and of so many further items."""
    if not isinstance(value, tuple) or len(value) == 0 or not isinstance(value[0], str):
        return False
    return value[0] in ARGUMENTS and len(value) == 1 + ARGUMENTS[value[0]]


def changed(state, name, rest):
    """The state behind the edit of this name with the rest of its items, of any kinds, as arguments."""
    # No table of functions, as an operator of keepers, which sets an item, comes here, too.
    if name == "add_module":
        return _add_module(state, rest[0])
    if name == "drop_module":
        return _drop_module(state, rest[0])
    if name == "add_use":
        return _add_use(state, rest[0], rest[1])
    if name == "cut_use":
        return _cut_use(state, rest[0], rest[1])
    if name == "rename":
        return _rename(state, rest[0], rest[1])
    if name == "merge":
        return _merge(state, rest[0], rest[1])
    if name == "add_rule":
        return _add_rule(state, rest[0])
    if name == "drop_rule":
        return _drop_rule(state, rest[0])
    if name == "allow":
        return _allow(state, rest[0], rest[1])
    return _withdraw(state, rest[0])


def named_rules(state):
    """The rules that the findings of the state name, in the order of the book."""
    _, book, _, findings = state
    return [book.rules[index] for index, evidence in findings]


def news_between(before, after):
    """The rules that are broken behind an edit and were not before it, and those that are healed by it."""
    then, now = named_rules(before), named_rules(after)
    broken = [rule for rule in now if rule not in then]
    healed = [rule for rule in after[1].rules if rule in then and rule not in now]
    return (tuple(broken), tuple(healed))
