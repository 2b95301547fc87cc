"""Rules: tuples that say which parts of a program may rest on which."""

from mayrest.bounds import MAX_RULE_NAMES
from mayrest.paths import covers, is_path, overlap

# The names of the items that stand behind the word with which a rule begins.
FORMS = {
    "forbid": ("sources", "targets", "how"),
    "layers": ("rows", "how"),
    "stairs": ("rows",),
    "apart": ("paths", "how"),
    "only": ("targets", "users"),
    "face": ("path", "exposed"),
    "noring": ("paths",),
}

# How many rule paths such an item has: at least, and at most.
SIZES = {
    "sources": (1, 6),
    "targets": (1, 6),
    "users": (0, 6),
    "paths": (2, 6),
    "exposed": (0, 6),
}


def _is_rule_path(value):
    """Whether the value, of any kind, is a path that may stand in a rule."""
    return is_path(value) and len(value.split(".")) <= MAX_RULE_NAMES


def _are_rule_paths(value, least, most):
    """Whether the value, of any kind, is a tuple of so many rule paths."""
    return (isinstance(value, tuple) and least <= len(value) <= most
            and all([_is_rule_path(path) for path in value]))


def _are_rows(value):
    """Whether the value, of any kind, is a tuple of rows."""
    return (isinstance(value, tuple) and 2 <= len(value) <= 5
            and all([_are_rule_paths(row, 1, 4) for row in value]))


def _fits(name, item, first):
    """Whether the item, of any kind, is as the name asks for; first is the first item of the rule."""
    if name == "how":
        return item in ("direct", "chain")
    if name == "rows":
        return _are_rows(item)
    if name == "path":
        return _is_rule_path(item)
    least, most = SIZES[name]
    if not _are_rule_paths(item, least, most):
        return False
    # Exposed paths stand behind a path that fits.
    return name != "exposed" or all([path != first and covers(first, path) for path in item])


def rule_paths(rule):
    """All paths that stand in the rule, in their order."""
    found = []
    for name, item in zip(FORMS[rule[0]], rule[1:]):
        if name == "rows":
            found.extend([path for row in item for path in row])
        elif name == "path":
            found.append(item)
        elif name != "how":
            found.extend(list(item))
    return found


def _any_overlap(paths):
    """Whether two of the paths overlap."""
    return any([overlap(path, other) for index, path in enumerate(paths) for other in paths[:index]])


def rule_error(value):
    """The first word that tells why the value, of any kind, is no rule, or None for a rule."""
    if not isinstance(value, tuple) or len(value) == 0 or not isinstance(value[0], str):
        return "rule"
    if value[0] not in FORMS or len(value) != 1 + len(FORMS[value[0]]):
        return "rule"
    for name, item in zip(FORMS[value[0]], value[1:]):
        if not _fits(name, item, value[1]):
            return name
    # The path of a face covers its exposed paths, and so it overlaps each of them.
    if _any_overlap(value[2] if value[0] == "face" else rule_paths(value)):
        return "overlap"
    return None
