"""What the document says of rules, told once more in the plainest way, and rules to try it on."""

import itertools

from mayrest.programs import Program
from tests.models import begins, by_size, every_chain

# Rules of every kind over the pool of models.POOL, with "direct" and with "chain" where they have it.
FORMS = [
    ("forbid", ("a",), ("b",)),
    ("forbid", ("c.a", "b"), ("ab", "a.b", "c.b")),
    ("forbid", ("c",), ("d", "a")),
    ("layers", (("a",), ("b",))),
    ("layers", (("a.a", "d"), ("c", "ab"), ("a.b", "b"))),
    ("layers", (("b", "c.a.a"), ("c.a.b",), ("c.b", "x"), ("ab",), ("a",))),
    ("apart", ("a", "c")),
    ("apart", ("a.a", "b", "c.a", "d", "x", "c.b")),
]
RULES = [
    *[(*form, how) for form in FORMS for how in ("direct", "chain")],
    ("stairs", (("a",), ("b",))),
    ("stairs", (("a.a", "b"), ("c.a", "ab"), ("a.b", "c.b"), ("d",))),
    ("only", ("a",), ()),
    ("only", ("a.a", "c"), ("b", "d")),
    ("only", ("b", "d", "c.a.a"), ("c.a.b",)),
    ("face", "a", ()),
    ("face", "a", ("a.b",)),
    ("face", "c", ("c.a.a", "c.b")),
    ("face", "c", ("c.a",)),
    ("noring", ("a", "b")),
    ("noring", ("c", "a", "d")),
    ("noring", ("a.a", "a.b", "b", "c.a", "c.b", "d")),
]

# Eight of them, of every kind.
EIGHT = (RULES[3], RULES[8], RULES[13], RULES[17], RULES[19], RULES[22], RULES[25], RULES[27])


def first_over(paths, module):
    """The first of the paths that covers the module, or None."""
    return next((path for path in paths if begins(path, module)), None)


def is_barred(rule, user, used):
    """Whether the rule, which is no "noring", bars the pair, as point 12 says it kind by kind."""
    kind = rule[0]
    if kind == "forbid":
        return first_over(rule[1], user) is not None and first_over(rule[2], used) is not None
    if kind == "apart":
        one, other = first_over(rule[1], user), first_over(rule[1], used)
        return None not in (one, other) and one != other
    if kind == "only":
        return any(begins(target, used) and not begins(target, user) and first_over(rule[2], user) is None
                   for target in rule[1])
    if kind == "face":
        return begins(rule[1], used) and not begins(rule[1], user) and first_over(rule[2], used) is None
    rows = {path: at for at, row in enumerate(rule[1]) for path in row}
    one, other = first_over(rows, user), first_over(rows, used)
    if None in (one, other) or one == other:
        return False
    if kind == "layers":
        return not rows[other] > rows[one]
    return rows[other] not in (rows[one], rows[one] + 1)


def every_circle(program, paths):
    """All evidence against a "noring" rule with these paths."""
    uses = {}
    for user, used in program.uses:
        uses.setdefault((first_over(paths, user), first_over(paths, used)), []).append((user, used))
    found = []
    for many in range(2, len(paths) + 1):
        for row in itertools.permutations(paths, many):
            steps = zip(row, row[1:] + row[:1])
            found.extend(itertools.product(*[uses.get(step, []) for step in steps]))
    return found


def every_evidence(program, rule):
    """All evidence against the rule in a small program, in its order."""
    if rule[0] == "noring":
        return by_size(every_circle(program, rule[1]))
    if rule[-1] == "chain":
        return by_size([tuple(zip(way, way[1:])) for way in every_chain(program)
                        if is_barred(rule, way[0], way[-1])])
    return [(use,) for use in program.uses if is_barred(rule, *use)]


def each_expected(program, rule):
    """What each_break has to yield in a small program."""
    found = every_evidence(program, rule)
    firsts = {}
    for evidence in found:
        if rule[0] == "noring":
            firsts.setdefault(rule[1].index(first_over(rule[1], evidence[0][0])), evidence)
        else:
            firsts.setdefault((evidence[0][0], evidence[-1][1]), evidence)
    return [firsts[key] for key in sorted(firsts)]


def is_broken(program, rule):
    """Whether a small program breaks the rule, as point 12 says it."""
    joined = set(program.uses)
    if rule[-1] == "chain":
        joined = {(way[0], way[-1]) for way in every_chain(program)}
    if rule[0] == "noring":
        rests = {(first_over(rule[1], user), first_over(rule[1], used)) for user, used in joined}
        return any(all(step in rests for step in zip(row, row[1:] + row[:1]))
                   for many in range(2, len(rule[1]) + 1) for row in itertools.permutations(rule[1], many))
    return any(is_barred(rule, *pair) for pair in joined)


# Two modules in each cell for these rules: those of a without a.c, of a.c, of b, and all others.
CELL_RULES = [
    *[(*form, how) for form in (("forbid", ("a",), ("b",)), ("forbid", ("b",), ("a.c",)), ("forbid", ("a.c", "b"), ("x",)),
                                ("layers", (("a",), ("b",))), ("layers", (("b",), ("a.c",))), ("apart", ("a.c", "b")),
                                ("apart", ("a", "b")), ("forbid", ("x",), ("a", "b"))) for how in ("direct", "chain")],
    ("stairs", (("a.c",), ("b",))), ("stairs", (("b",), ("a",), ("x",))), ("only", ("b",), ("a.c",)), ("only", ("a.c",), ()),
    ("only", ("a", "b"), ()), ("face", "a", ("a.c",)), ("face", "a", ()), ("face", "b", ()),
    ("noring", ("a", "b")), ("noring", ("a.c", "b")), ("noring", ("x", "a.c", "b")), ("noring", ("a", "x")),
]
CELLS = [("a.m", "a.n"), ("a.c.m", "a.c.n"), ("b.m", "b.n"), ("x.m", "x.n"), ("y.m", "y.n")]


def gap_programs():
    """Programs with the uses of one evidence, over two modules in each cell: one of them is a gap if there is one."""
    firsts = [first for first, _ in CELLS]
    rows = [tuple(zip(way, way[1:])) for many in range(2, 6) for way in itertools.permutations(firsts, many)]
    for many in (2, 3):
        for cells in itertools.permutations(CELLS, many):
            # Uses between different modules, in a circle of cells; a and a.c may stand for one another.
            for ends in itertools.product(*[[cell, ("a.m", "a.c.n"), ("a.c.m", "a.n")] if cell[0][0] == "a" else [cell]
                                            for cell in cells]):
                rows.append(tuple((ends[at][0], ends[(at + 1) % many][1]) for at in range(many)))
    return [Program.of(*uses) for uses in sorted({tuple(sorted(set(row))) for row in rows})]
