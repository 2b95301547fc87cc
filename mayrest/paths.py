"""Paths: names joined by single dots, and which of them cover which."""

from mayrest.bounds import MAX_NAMES

_MAX_LETTERS = 8


def _is_name(text):
    """Whether the string is one name of a path."""
    # Python's own tests for letters and lower case would let in letters beyond a to z.
    return 1 <= len(text) <= _MAX_LETTERS and all(["a" <= letter <= "z" for letter in text])


def is_path(value):
    """Whether the value, of any kind, is a path."""
    if not isinstance(value, str):
        return False
    names = value.split(".")
    return len(names) <= MAX_NAMES and all([_is_name(name) for name in names])


def covers(path, other):
    """Whether path is other, or other begins with path and a dot."""
    # Without the dot, "app" would cover "apple".
    return other == path or other.startswith(path + ".")


def overlap(path, other):
    """Whether one of the two paths covers the other."""
    return covers(path, other) or covers(other, path)


def parent(path):
    """The path without its last name, or None for a path of one name."""
    above, dot, _ = path.rpartition(".")
    return above if dot else None


def last_name(path):
    """The last name of the path."""
    return path.split(".")[-1]


def covered(paths, path):
    """The first of the paths that covers path, or None if none does."""
    for candidate in paths:
        if covers(candidate, path):
            return candidate
    return None
