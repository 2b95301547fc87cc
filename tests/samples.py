"""Values of many kinds, for the tests of what accepts any value."""

from mayrest.books import Book
from mayrest.errors import BadText, Breaks, Full, NoModule, RestError, TooMany
from mayrest.programs import Program


def nested(value, wrap, depth):
    """The value, wrapped so many times."""
    for _ in range(depth):
        value = wrap(value)
    return value


def other_values():
    """Values of every kind but strings, each time new ones."""
    return [
        None,
        True,
        False,
        0,
        1,
        -1,
        6,
        10 ** 39,
        10 ** 40 - 1,
        -(10 ** 40 - 1),
        (),
        ("app",),
        ("app", "db"),
        tuple("app"),
        (None, "path"),
        tuple(range(2000)),
        nested("app", lambda value: (value,), 20),
        [],
        ["app"],
        ["app", "db"],
        ["app"] * 2000,
        nested("app", lambda value: [value], 20),
        {},
        {"app": "db"},
        {"path": ["app", ("app.db", {"app": None})]},
        {number: "app" for number in range(1000)},
        nested("app", lambda value: {"app": value}, 20),
        nested("app", lambda value: ([value],), 10),
        RestError("app"),
        Full(),
        NoModule("app"),
        TooMany(6),
        BadText(0, 0),
        Breaks(("noring", ("app", "lib")), (("app", "lib"), ("lib", "app"))),
        Program(("app",), ()),
        Program.of(("app", "db")),
        (Program.of(("app", "db")), ("app", "db")),
        Book(()),
        Book((("noring", ("app", "db")),)),
        (("app", "db"), ["app", "db"], ("db", None), {"app": ("db", True)}),
    ]


def any_values():
    """Values of every kind, each time new ones."""
    return other_values() + ["", "app", "app.db", "no path", "a" * 2000]


# What is put in the place of a part of a value.
STRAY = (None, True, False, 0, 1, -1, "", "app", (), [], {}, ("app", "db"), 10 ** 39)


def replaced(value):
    """The value with one part replaced, left out, doubled or given as a list, in all places in turn."""
    found = [stray for stray in STRAY if repr(stray) != repr(value)]
    if isinstance(value, tuple):
        found.append(list(value))
        for at, item in enumerate(value):
            found.extend([(*value[:at], *value[at + 1:]), (*value[:at], item, *value[at:])])
            found.extend((*value[:at], other, *value[at + 1:]) for other in replaced(item))
        found.extend((*value[:at], value[at + 1], value[at], *value[at + 2:]) for at in range(len(value) - 1))
    return found
