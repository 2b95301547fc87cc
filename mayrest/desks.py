"""Desks: keepers that are worked with by lines of words."""

from mayrest.chains import chain, ring
from mayrest.cuts import fewest_cuts
from mayrest.edits import judged
from mayrest.errors import BadPath, BadText, NoAllowance, NoModule, NoPart, NoRule, NoUse, RestError
from mayrest.impact import touched
from mayrest.keepers import StrictKeeper
from mayrest.paths import is_path
from mayrest.texts import book_text, program_text, rule_of, words_in

_MAX_HISTORY = 20
_MAX_DIGITS = 3


def _module(keeper, path):
    return keeper.add_module(path)


def _drop(keeper, path):
    return keeper.drop_module(path)


def _use(keeper, user, used):
    return keeper.add_use(user, used)


def _cut(keeper, user, used):
    return keeper.cut_use(user, used)


def _rename(keeper, path, new):
    return keeper.rename(path, new)


def _merge(keeper, path, other):
    return keeper.merge(path, other)


def _rule(keeper, *words):
    rule = rule_of(list(words))
    if rule is None:
        raise BadText(1, 1)
    return keeper.add_rule(rule)


def _norule(keeper, digits):
    return keeper.drop_rule(int(digits))


def _allow(keeper, user, used, *words):
    return keeper.allow((user, used), " ".join(words))


def _withdraw(keeper, user, used):
    return keeper.withdraw((user, used))


def _undo(keeper):
    return keeper.undo()


def _lenient(keeper):
    keeper.lenient = True
    return keeper.version


def _strict(keeper):
    keeper.lenient = False
    return keeper.version


def _pairs_text(uses):
    """The modules of the uses, with a blank between the two of one use."""
    return ", ".join([user + " " + used for user, used in uses])


def _lines_text(text):
    """The lines of the text, with "; " between two of them."""
    return "; ".join(text.split("\n")[:-1])


def _why(keeper):
    return "; ".join([str(index) + ": " + _pairs_text(evidence) for index, evidence in keeper.findings])


def _refuse_no_path(word):
    """Raise BadPath if the word is no path."""
    if not is_path(word):
        raise BadPath(word)


def _chain(keeper, source, target):
    _refuse_no_path(source)
    _refuse_no_path(target)
    return " ".join(chain(keeper.program, (source,), (target,)) or ())


def _ring(keeper, module):
    _refuse_no_path(module)
    if module not in keeper.program.modules:
        raise NoModule(module)
    return " ".join(ring(keeper.program, module) or ())


def _who(keeper, path):
    _refuse_no_path(path)
    return " ".join(touched(keeper.program, (path,)))


def _cuts(keeper):
    return _pairs_text(fewest_cuts(judged(keeper.program, keeper.allowances), keeper.book))


def _program(keeper):
    return _lines_text(program_text(keeper.program))


def _book(keeper):
    return _lines_text(book_text(keeper.book))


# By the first word of a line: what it does with the keeper and the words behind it; the new version.
DEEDS = {
    "module": _module,
    "drop": _drop,
    "use": _use,
    "cut": _cut,
    "rename": _rename,
    "merge": _merge,
    "rule": _rule,
    "norule": _norule,
    "allow": _allow,
    "withdraw": _withdraw,
    "undo": _undo,
    "lenient": _lenient,
    "strict": _strict,
}

# Likewise: what it tells of the keeper, which may be nothing.
QUESTIONS = {
    "why": _why,
    "chain": _chain,
    "ring": _ring,
    "who": _who,
    "cuts": _cuts,
    "program": _program,
    "book": _book,
}

# How many words stand behind the first one, at least and at most; None for as many as there may be.
WORDS = {
    "module": (1, 1),
    "drop": (1, 1),
    "use": (2, 2),
    "cut": (2, 2),
    "rename": (2, 2),
    "merge": (2, 2),
    "rule": (0, None),
    "norule": (1, 1),
    "allow": (3, None),
    "withdraw": (2, 2),
    "undo": (0, 0),
    "lenient": (0, 0),
    "strict": (0, 0),
    "why": (0, 0),
    "chain": (2, 2),
    "ring": (1, 1),
    "who": (1, 1),
    "cuts": (0, 0),
    "program": (0, 0),
    "book": (0, 0),
}


def _is_number(word):
    """Whether the word is an integer as "norule" takes it."""
    if len(word) > _MAX_DIGITS or not all(["0" <= letter <= "9" for letter in word]):
        return False
    return word == "0" or not word.startswith("0")


def _is_line(keeper, words):
    """Whether the words are a line at a desk with this keeper."""
    if len(words) == 0 or words[0] not in WORDS:
        return False
    least, most = WORDS[words[0]]
    if len(words) - 1 < least or (most is not None and len(words) - 1 > most):
        return False
    if words[0] == "norule":
        return _is_number(words[1])
    return words[0] not in ("lenient", "strict") or isinstance(keeper, StrictKeeper)


def _done(keeper, first, rest):
    """The answer to a line with these words; raises the errors of what it does."""
    if first in DEEDS:
        deed = DEEDS[first]
        return "ok " + str(deed(keeper, *rest))
    question = QUESTIONS[first]
    told = question(keeper, *rest)
    return told if told else "-"


def _class_name(error):
    """The name of the class of the error."""
    return error.__class__.__name__


def _answer(keeper, line):
    """The answer to the line, which is a string."""
    words = words_in(line)
    if not _is_line(keeper, words):
        return "what"
    try:
        return _done(keeper, words[0], words[1:])
    except (RestError, NoAllowance, NoModule, NoPart, NoRule, NoUse) as error:
        return "no " + _class_name(error)


class Desk:
    """Works with one keeper by lines."""

    def __init__(self, keeper):
        self._keeper = keeper
        self._history = ()

    def say(self, line):
        """Do what the line, a value of any kind, asks for; the answer."""
        told = line if isinstance(line, str) else None
        answer = "what" if told is None else _answer(self._keeper, told)
        pairs = (*self._history, (told, answer))
        self._history = pairs[-_MAX_HISTORY:]
        return answer

    @property
    def history(self):
        return self._history
