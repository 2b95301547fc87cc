"""What breaks a rule: barred pairs of modules, and evidence against rules."""

from mayrest.chains import chains_from, is_chain, next_table, ring_from
from mayrest.paths import covered


def is_by_chains(rule):
    """Whether the rule, but for "noring", is about chains, and not about single uses."""
    return rule[-1] == "chain"


def _row_place(rows, module):
    """The index of the row with a path that covers the module, and this path, or None."""
    for index, row in enumerate(rows):
        path = covered(row, module)
        if path is not None:
            return (index, path)
    return None


def _place(rule, module):
    """What of the module decides what with it breaks the rule, in the form that bars and circles take."""
    kind = rule[0]
    if kind in ("layers", "stairs"):
        return _row_place(rule[1], module)
    if kind in ("apart", "noring"):
        return covered(rule[1], module)
    if kind == "face":
        return (covered((rule[1],), module), covered(rule[2], module))
    return (covered(rule[1], module), covered(rule[2], module))


def places(rule, modules):
    """What the rule goes by: the place of each of the modules."""
    return {module: _place(rule, module) for module in modules}


def _rows_bar(kind, here, there):
    """Whether "layers" or "stairs" bars the pair of two modules at these places."""
    if here is None or there is None or here == there:
        return False
    if kind == "layers":
        return there[0] <= here[0]
    return there[0] - here[0] not in (0, 1)


def bars(kind, here, there):
    """Whether a rule of the kind bars the pair of two modules at these places."""
    if kind in ("layers", "stairs"):
        return _rows_bar(kind, here, there)
    if kind == "apart":
        return here is not None and there is not None and here != there
    if kind == "forbid":
        return here[0] is not None and there[1] is not None
    if kind == "only":
        return there[0] is not None and here[0] != there[0] and here[1] is None
    return there[0] is not None and here[0] is None and there[1] is None


def uses_of(way):
    """The uses of a chain: of each of its modules to the next one."""
    return tuple(zip(way, way[1:]))


def _single_breaks(program, rule):
    """The evidence of each use that the rule bars, ascending."""
    stands = places(rule, program.modules)
    return [((user, used),) for user, used in program.uses if bars(rule[0], stands[user], stands[used])]


def _chain_breaks(program, rule):
    """The uses of the first chain for each barred pair that a chain joins, the pairs ascending."""
    stands = places(rule, program.modules)
    nexts = next_table(program)
    found = []
    for start in program.modules:
        ends = [end for end in program.modules if bars(rule[0], stands[start], stands[end])]
        ways = chains_from(nexts, start) if ends else {}
        found.extend([uses_of(ways[end]) for end in ends if end in ways])
    return found


def _links(uses, stands, paths):
    """For each path, the others with a module that one of its modules uses, each with the first such use.

    The uses are ascending, and so the others stand in the order of their first uses.
    """
    found = {}
    for path in paths:
        found[path] = {}
    for user, used in uses:
        upper, lower = stands[user], stands[used]
        if upper is not None and lower is not None and upper != lower:
            if lower not in found[upper]:
                found[upper][lower] = (user, used)
    return found


def circles(uses, stands, paths):
    """Of each path that has some: the first evidence against a "noring" rule that begins in it.

    The uses are ascending; stands has the path that covers each of their modules, or None.
    """
    links = _links(uses, stands, paths)
    found = []
    for path in paths:
        way = ring_from(links, path)
        if way is not None:
            found.append(tuple([links[upper][lower] for upper, lower in uses_of((*way, path))]))
    return found


def breaks_of(program, rule):
    """The list of what each_break yields."""
    if rule[0] == "noring":
        return circles(program.uses, places(rule, program.modules), rule[1])
    if is_by_chains(rule):
        return _chain_breaks(program, rule)
    return _single_breaks(program, rule)


def each_break(program, rule):
    """Yield evidence: of each barred use, of each barred pair that a chain joins, or of each path."""
    yield from breaks_of(program, rule)


def first_evidence(found):
    """That evidence of the list which comes first: with the fewest uses, then as a tuple; or None."""
    return min(found, key=lambda evidence: (len(evidence), evidence), default=None)


def find_break(program, rule):
    """The first evidence against the rule, or None if the program keeps it."""
    return first_evidence(breaks_of(program, rule))


def _is_circle(paths, evidence):
    """Whether the uses lead around through different paths, each from the path where the last one ended."""
    uppers = [covered(paths, user) for user, used in evidence]
    lowers = [covered(paths, used) for user, used in evidence]
    if len(evidence) < 2 or None in uppers or len(set(uppers)) != len(uppers):
        return False
    return lowers == [*uppers[1:], uppers[0]]


def break_holds(program, rule, value):
    """Whether the value, of any kind, is evidence against the rule in the program."""
    if not isinstance(value, tuple) or len(value) == 0:
        return False
    if not all([use in program.uses for use in value]):
        return False
    if rule[0] == "noring":
        return _is_circle(rule[1], value)
    way = (value[0][0], *[used for user, used in value])
    if not is_by_chains(rule) and len(value) != 1:
        return False
    stands = places(rule, (way[0], way[-1]))
    return is_chain(program, way) and uses_of(way) == value and bars(rule[0], stands[way[0]], stands[way[-1]])
