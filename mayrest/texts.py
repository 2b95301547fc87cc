"""Texts: programs, rules and books in lines of words, there and back."""

from mayrest.books import Book
from mayrest.bounds import MAX_MODULES, MAX_RULES, MAX_USES
from mayrest.errors import BadText
from mayrest.paths import is_path, overlap
from mayrest.programs import Program
from mayrest.rules import rule_error


def _ended(lines):
    """The text of the lines, each of which ends with a line feed."""
    return "".join([line + "\n" for line in lines])


def _module_line(program, module):
    """The line of a program's text for the module."""
    useds = [used for user, used in program.uses if user == module]
    return " ".join([module, "->", *useds] if useds else [module])


def program_text(program):
    """One line for each module: its path, and the modules that it uses."""
    return _ended([_module_line(program, module) for module in program.modules])


def _rows_text(rows):
    """The paths of the rows, with "|" between two rows."""
    return " | ".join([" ".join(row) for row in rows])


def _marked(mark, paths):
    """The mark and the paths behind it, with a blank before them, or nothing if there are no paths."""
    return "".join([" " + word for word in [mark, *paths]]) if paths else ""


def rule_text(rule):
    """The words of the rule, without a line feed."""
    kind = rule[0]
    if kind == "forbid":
        return kind + " " + rule[3] + " " + " ".join(rule[1]) + _marked("->", rule[2])
    if kind == "layers":
        return kind + " " + rule[2] + " " + _rows_text(rule[1])
    if kind == "stairs":
        return kind + " " + _rows_text(rule[1])
    if kind == "apart":
        return kind + " " + rule[2] + " " + " ".join(rule[1])
    if kind == "only":
        return kind + " " + " ".join(rule[1]) + _marked("<-", rule[2])
    if kind == "face":
        return kind + " " + rule[1] + _marked(":", rule[2])
    return kind + " " + " ".join(rule[1])


def book_text(book):
    """One line for each rule."""
    return _ended([rule_text(rule) for rule in book.rules])


def words_in(line):
    """The words of the line, which blanks alone part."""
    return [word for word in line.split(" ") if word]


def _words_read(line):
    """The words of the line before a remark."""
    words = []
    for word in words_in(line):
        if word.startswith("#"):
            break
        words.append(word)
    return words


def _lines_read(value):
    """The lines with words, each with its number and its words."""
    if not isinstance(value, str):
        raise BadText(0, 0)
    found = [(number, _words_read(line)) for number, line in enumerate(value.split("\n"), start=1)]
    return [(number, words) for number, words in found if words]


def _parted(words, mark):
    """Tuples of the words between the marks."""
    parts = [[]]
    for word in words:
        if word == mark:
            parts.append([])
        else:
            parts[-1].append(word)
    return tuple([tuple(part) for part in parts])


def _two_parts(words, mark):
    """The words before the mark, and those behind it, of which there are none without a mark; or None."""
    parts = _parted(words, mark)
    if len(parts) == 1:
        return (parts[0], ())
    if len(parts) == 2 and len(parts[1]) > 0:
        return parts
    return None


def _forbid_of(words):
    return ("forbid", *_parted(words[2:], "->"), words[1])


def _layers_of(words):
    return ("layers", _parted(words[2:], "|"), words[1])


def _stairs_of(words):
    return ("stairs", _parted(words[1:], "|"))


def _apart_of(words):
    return ("apart", tuple(words[2:]), words[1])


def _only_of(words):
    parts = _two_parts(words[1:], "<-")
    if parts is None:
        return None
    return ("only", parts[0], parts[1])


def _face_of(words):
    parts = _two_parts(words[1:], ":")
    if parts is None or len(parts[0]) != 1:
        return None
    return ("face", parts[0][0], parts[1])


def _noring_of(words):
    return ("noring", tuple(words[1:]))


# What makes of two words or more, of which this is the first one, what may be a rule.
READERS = {
    "forbid": _forbid_of,
    "layers": _layers_of,
    "stairs": _stairs_of,
    "apart": _apart_of,
    "only": _only_of,
    "face": _face_of,
    "noring": _noring_of,
}


def rule_of(words):
    """The rule that the words tell as those of a text do, or None."""
    if len(words) < 2 or words[0] not in READERS:
        return None
    reader = READERS[words[0]]
    rule = reader(words)
    return rule if rule_error(rule) is None else None


def read_rule(value):
    """The rule that a text of one line tells."""
    lines = _lines_read(value)
    if "\n" in value or len(lines) == 0:
        raise BadText(1, 1)
    rule = rule_of(lines[0][1])
    if rule is None:
        raise BadText(1, 1)
    return rule


def read_book(value):
    """The book that a text tells."""
    rules = []
    for number, words in _lines_read(value):
        rule = rule_of(words)
        if rule is None:
            raise BadText(number, 1)
        if rule in rules:
            raise BadText(number, 2)
        if len(rules) == MAX_RULES:
            raise BadText(number, 5)
        rules.append(rule)
    return Book(tuple(rules))


def _are_of_module(words):
    """Whether the words are a path, or a path, "->" and paths."""
    if not all([is_path(word) for word in [words[0], *words[2:]]]):
        return False
    return len(words) == 1 or (words[1] == "->" and len(words) > 2)


def _module_code(modules, words):
    """What is wrong with the words of a line behind the lines of these modules, as a code, or None."""
    if not _are_of_module(words):
        return 1
    if any([overlap(words[0], module) for module in modules]):
        return 2
    # The words are the module, "->" and what it uses: none of them may stand there twice.
    if len(set(words)) != len(words):
        return 4
    if len(modules) == MAX_MODULES:
        return 5
    return None


def _modules_read(lines):
    """The modules of a program's lines."""
    modules = []
    for number, words in lines:
        code = _module_code(modules, words)
        if code is not None:
            raise BadText(number, code)
        modules.append(words[0])
    return modules


def read_program(value):
    """The program that a text tells."""
    lines = _lines_read(value)
    modules = _modules_read(lines)
    uses = []
    for number, words in lines:
        for used in words[2:]:
            if used not in modules:
                raise BadText(number, 3)
            uses.append((words[0], used))
    if len(uses) > MAX_USES:
        raise BadText(0, 6)
    return Program(tuple(modules), tuple(uses))
