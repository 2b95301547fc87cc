"""Keepers: a program, a book and allowances that are changed by edits, which can be taken back."""

from mayrest.bounds import BATCH, MAX_EDITS
from mayrest.books import Book
from mayrest.edits import changed, is_change, named_rules, news_between, state_of
from mayrest.errors import (BadBatch, BadEdit, Breaks, Full, NoAllowance, NoModule, NoPart, NoRule, NothingToUndo,
                            NoUse, Rejected, RestError)


class Keeper:
    """Keeps the state behind each edit in effect, the one before all edits first; mayrest.edits makes them."""

    def __init__(self, program, *, rules=()):
        # No call changes this list: each one that has an effect gives the keeper another list.
        self._states = [state_of(program, Book(rules), ())]
        self._news = ((), ())

    @property
    def program(self):
        return self._states[-1][0]

    @property
    def book(self):
        return self._states[-1][1]

    @property
    def allowances(self):
        return self._states[-1][2]

    @property
    def findings(self):
        return self._states[-1][3]

    @property
    def version(self):
        return len(self._states) - 1

    @property
    def news(self):
        return self._news

    def add_module(self, path):
        return self._edit("add_module", (path,))

    def drop_module(self, path):
        return self._edit("drop_module", (path,))

    def add_use(self, user, used):
        return self._edit("add_use", (user, used))

    def cut_use(self, user, used):
        return self._edit("cut_use", (user, used))

    def rename(self, path, new):
        """Give each module that path covers the path in which new stands in the place of path."""
        return self._edit("rename", (path, new))

    def merge(self, path, other):
        """Take the module other away, and let its uses be uses of the module path."""
        return self._edit("merge", (path, other))

    def add_rule(self, rule):
        return self._edit("add_rule", (rule,))

    def drop_rule(self, index):
        return self._edit("drop_rule", (index,))

    def allow(self, use, reason):
        return self._edit("allow", (use, reason))

    def withdraw(self, use):
        return self._edit("withdraw", (use,))

    def undo(self):
        """Take the last edit in effect back."""
        if len(self._states) == 1:
            raise NothingToUndo()
        return self._settle("undo", self._states[:-1])

    @classmethod
    def is_edit(cls, value):
        """Whether the value, of any kind, is an edit that run can do."""
        return is_change(value)

    def run(self, edits):
        """Do some edits, a list or tuple of them, or none of them if one raises an error."""
        if not isinstance(edits, (list, tuple)) or len(edits) > BATCH:
            raise BadBatch()
        for index, edit in enumerate(edits):
            if not is_change(edit):
                raise BadEdit(index)
        states = self._states
        for index, edit in enumerate(edits):
            try:
                states = [*states, self._next_state(states, edit[0], edit[1:])]
            except (RestError, NoAllowance, NoModule, NoPart, NoRule, NoUse):
                raise Rejected(index)
        return self._settle("run", states)

    def twin(self):
        """A keeper of the same class that is as this one is, and changes by itself from then on."""
        other = Keeper(self.program)
        self._hand_on(other)
        return other

    def _hand_on(self, other):
        """Make the other keeper, of the same class, as this one is."""
        other._states = self._states
        other._news = self._news

    def _next_state(self, states, name, rest):
        """The state that the edit of this name makes of the last one of the states."""
        if len(states) > MAX_EDITS:
            raise Full()
        return changed(states[-1], name, rest)

    def _edit(self, name, rest):
        """Do the edit of this name; the new version."""
        return self._settle(name, [*self._states, self._next_state(self._states, name, rest)])

    def _settle(self, name, states):
        """Let these states be in effect, behind a call of the method of this name; the new version."""
        self._news = news_between(self._states[-1], states[-1])
        self._states = states
        return self.version

    def __getitem__(self, use):
        for allowed, reason in self.allowances:
            if allowed == use:
                return reason
        raise NoAllowance(use)

    def __setitem__(self, use, reason):
        self.allow(use, reason)

    def __iter__(self):
        raise TypeError("keepers are not walked over")

    def __contains__(self, use):
        return use in [allowed for allowed, reason in self.allowances]

    def __len__(self):
        return len(self.allowances)

    def __eq__(self, other):
        return (isinstance(other, Keeper) and self.program == other.program and self.book == other.book
                and self.allowances == other.allowances)

    def __str__(self):
        return f"{self.version} edits, {len(self.findings)} findings"


class StrictKeeper(Keeper):
    """A keeper that does no edit by which a rule comes to be broken, unless it is lenient."""

    def __init__(self, program, *, rules=(), lenient=False):
        super().__init__(program, rules=rules)
        self._lenient = lenient

    @property
    def lenient(self):
        return self._lenient

    @lenient.setter
    def lenient(self, value):
        self._lenient = value

    def twin(self):
        """A keeper of the same class that is as this one is, and changes by itself from then on."""
        other = StrictKeeper(self.program)
        self._hand_on(other)
        return other

    def _hand_on(self, other):
        super()._hand_on(other)
        other._lenient = self._lenient

    def _next_state(self, states, name, rest):
        after = super()._next_state(states, name, rest)
        if not self._lenient:
            _, book, _, findings = after
            then = named_rules(states[-1])
            for index, evidence in findings:
                if book.rules[index] not in then:
                    raise Breaks(book.rules[index], evidence)
        return after


class LoggedKeeper(Keeper):
    """A keeper with a log of the calls that had an effect."""

    def __init__(self, program, *, rules=()):
        super().__init__(program, rules=rules)
        self._log = ()

    @property
    def log(self):
        return self._log

    def twin(self):
        """A keeper of the same class that is as this one is, and changes by itself from then on."""
        other = LoggedKeeper(self.program)
        self._hand_on(other)
        return other

    def _hand_on(self, other):
        super()._hand_on(other)
        other._log = self._log

    def _settle(self, name, states):
        version = super()._settle(name, states)
        self._log = (*self._log, (name, version))
        return version


class AuditKeeper(LoggedKeeper, StrictKeeper):
    """A strict keeper with a log."""

    def __init__(self, program, *, rules=(), lenient=False):
        super().__init__(program, rules=rules)
        self.lenient = lenient

    def twin(self):
        """A keeper of the same class that is as this one is, and changes by itself from then on."""
        other = AuditKeeper(self.program)
        self._hand_on(other)
        return other
