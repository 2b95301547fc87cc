"""What points 24 to 28 say of keepers, told once more in the plainest way: a state is a dict that is copied for each edit."""

from mayrest import errors
from mayrest.books import Book
from mayrest.programs import Program
from mayrest.rules import rule_error
from tests.models import begins
from tests.rulings import is_broken

ARGUMENTS = {"add_module": 1, "drop_module": 1, "add_use": 2, "cut_use": 2, "rename": 2, "merge": 2, "add_rule": 1,
             "drop_rule": 1, "allow": 2, "withdraw": 1}


def is_plain_path(value):
    """Whether a value is a path."""
    if not isinstance(value, str):
        return False
    names = value.split(".")
    return len(names) <= 6 and all(1 <= len(name) <= 8 and set(name) <= set("abcdefghijklmnopqrstuvwxyz") for name in names)


def overlapping(path, modules):
    """Whether the path overlaps one of the modules."""
    return any(begins(path, module) or begins(module, path) for module in modules)


def started(program, rules):
    """The state at the beginning."""
    return {"modules": set(program.modules), "uses": set(program.uses), "rules": list(rules), "reasons": {}}


def copied(state):
    """The state with its own sets, lists and dicts."""
    return {"modules": set(state["modules"]), "uses": set(state["uses"]), "rules": list(state["rules"]),
            "reasons": dict(state["reasons"])}


def plain_program(state):
    """The program of the state."""
    return Program(tuple(state["modules"]), tuple(state["uses"]))


def broken_rules(state):
    """The rules that the findings of the state name."""
    program = Program(tuple(state["modules"]), tuple(use for use in state["uses"] if use not in state["reasons"]))
    return [rule for rule in state["rules"] if is_broken(program, rule)]


def has(known, value):
    """Whether a value of any kind is among those that are known, which can be compared with it."""
    return any(item == value for item in known)


def _relabel(state, label):
    uses = {(label(user), label(used)) for user, used in state["uses"]}
    state["reasons"] = {(label(user), label(used)): reason for (user, used), reason in state["reasons"].items()}
    state["modules"] = {label(module) for module in state["modules"]}
    state["uses"] = uses


def _add_module(state, path):
    if not is_plain_path(path):
        raise errors.BadPath(path)
    if overlapping(path, state["modules"]):
        raise errors.Clash(path)
    if len(state["modules"]) >= 24:
        raise errors.TooMany(24)
    state["modules"].add(path)


def _drop_module(state, path):
    if not has(state["modules"], path):
        raise errors.NoModule(path)
    if any(path in use for use in state["uses"]):
        raise errors.InUse(path)
    state["modules"].remove(path)


def _add_use(state, user, used):
    for module in (user, used):
        if not has(state["modules"], module):
            raise errors.NoModule(module)
    if user == used:
        raise errors.Itself(user)
    if (user, used) in state["uses"]:
        raise errors.Taken((user, used))
    if len(state["uses"]) >= 200:
        raise errors.TooMany(200)
    state["uses"].add((user, used))


def _cut_use(state, user, used):
    if not has(state["uses"], (user, used)):
        raise errors.NoUse((user, used))
    state["uses"].remove((user, used))
    state["reasons"].pop((user, used), None)


def _rename(state, path, new):
    inside = [module for module in state["modules"] if isinstance(path, str) and begins(path, module)]
    if not inside:
        raise errors.NoPart(path)
    if not is_plain_path(new):
        raise errors.BadPath(new)
    label = {module: ".".join(new.split(".") + module.split(".")[len(path.split(".")):]) for module in inside}
    for longer in sorted(label.values()):
        if len(longer.split(".")) > 6:
            raise errors.BadPath(longer)
    for longer in sorted(label.values()):
        if overlapping(longer, state["modules"] - set(inside)):
            raise errors.Clash(longer)
    _relabel(state, lambda module: label.get(module, module))


def _merge(state, path, other):
    for module in (path, other):
        if not has(state["modules"], module):
            raise errors.NoModule(module)
    if path == other:
        raise errors.Itself(path)
    state["reasons"] = {use: reason for use, reason in state["reasons"].items() if other not in use}
    state["modules"].remove(other)
    ends = [tuple(path if module == other else module for module in use) for use in state["uses"]]
    state["uses"] = {(user, used) for user, used in ends if user != used}


def _add_rule(state, rule):
    word = rule_error(rule)
    if word is not None:
        raise errors.BadRule(word)
    if rule in state["rules"]:
        raise errors.Taken(rule)
    if len(state["rules"]) >= 8:
        raise errors.TooMany(8)
    state["rules"].append(rule)


def _drop_rule(state, index):
    if type(index) is not int or index not in range(len(state["rules"])):
        raise errors.NoRule(index)
    del state["rules"][index]


def _allow(state, use, reason):
    if not has(state["uses"], use):
        raise errors.NoUse(use)
    if not isinstance(reason, str) or not 1 <= len(reason) <= 40 or not all(32 <= ord(sign) <= 126 for sign in reason):
        raise errors.BadReason(reason)
    state["reasons"][use] = reason


def _withdraw(state, use):
    if not has(state["reasons"], use):
        raise errors.NoAllowance(use)
    del state["reasons"][use]


DEEDS = {"add_module": _add_module, "drop_module": _drop_module, "add_use": _add_use, "cut_use": _cut_use, "rename": _rename,
         "merge": _merge, "add_rule": _add_rule, "drop_rule": _drop_rule, "allow": _allow, "withdraw": _withdraw}


class PlainKeeper:
    """A keeper of any of the four classes; strict and logged say which."""

    def __init__(self, program, rules, strict=False):
        self.states = [started(program, rules)]
        self.strict = strict
        self.news = ((), ())
        self.log = ()

    def next(self, states, name, *rest):
        """The state behind an edit, or an error."""
        if len(states) > 40:
            raise errors.Full()
        state = copied(states[-1])
        DEEDS[name](state, *rest)
        if self.strict:
            before = broken_rules(states[-1])
            for rule in broken_rules(state):
                if rule not in before:
                    program = Program(tuple(state["modules"]), tuple(use for use in state["uses"] if use not in state["reasons"]))
                    raise errors.Breaks(rule, Book((rule,))(program)[0][1])
        return state

    def settle(self, name, states):
        """Let the states be in effect."""
        before, now = broken_rules(self.states[-1]), broken_rules(states[-1])
        self.news = (tuple(rule for rule in now if rule not in before),
                     tuple(rule for rule in states[-1]["rules"] if rule in before and rule not in now))
        self.states = states
        self.log += ((name, len(states) - 1),)
        return len(states) - 1

    def edit(self, name, *rest):
        """Do an edit."""
        return self.settle(name, [*self.states, self.next(self.states, name, *rest)])

    def undo(self):
        """Take an edit back."""
        if len(self.states) == 1:
            raise errors.NothingToUndo()
        return self.settle("undo", self.states[:-1])

    def run(self, edits):
        """Do several edits."""
        if not isinstance(edits, (list, tuple)) or len(edits) > 10:
            raise errors.BadBatch()
        for index, edit in enumerate(edits):
            if not isinstance(edit, tuple) or not edit or not isinstance(edit[0], str) or ARGUMENTS.get(edit[0]) != len(edit) - 1:
                raise errors.BadEdit(index)
        states = list(self.states)
        for index, edit in enumerate(edits):
            try:
                states.append(self.next(states, *edit))
            except (errors.RestError, LookupError):
                raise errors.Rejected(index)
        return self.settle("run", states)
