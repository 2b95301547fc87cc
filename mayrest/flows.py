"""Separating parts: the fewest uses to cut, with as many chains that no fewer cuts separate."""

from mayrest.chains import chain, chain_holds
from mayrest.errors import Overlap
from mayrest.paths import overlap
from mayrest.programs import Program, modules_under


def _refuse_overlap(sources, targets):
    """Raise Overlap with the first source that overlaps a target, if one does."""
    for path in sources:
        if any([overlap(path, target) for target in targets]):
            raise Overlap(path)


def _steps(program, carried):
    """For each module, the uses over which a wider flow could go on, each with where it leads.

    A use that carries nothing yet leads on; one that does leads back, as the flow can be taken from it.
    """
    table = {}
    for module in program.modules:
        table[module] = []
    for use in program.uses:
        user, used = use
        if use in carried:
            table[used].append((use, user))
        else:
            table[user].append((use, used))
    return table


def _spread(steps, starts):
    """The modules to which the steps lead from the starts, each with the use and the module before it."""
    before = {}
    for start in starts:
        before[start] = None
    queue = list(starts)
    at = 0
    while at < len(queue):
        module = queue[at]
        for use, other in steps[module]:
            if other not in before:
                before[other] = (use, module)
                queue.append(other)
        at += 1
    return before


def _uses_behind(before, end):
    """The uses of the steps that lead from a start to the end."""
    uses = []
    step = before[end]
    while step is not None:
        uses.append(step[0])
        step = before[step[1]]
    return uses


def _widened(carried, uses):
    """The uses that carry the flow after these steps: a step over one that carries takes it away."""
    kept = [use for use in carried if use not in uses]
    return {use: True for use in [*kept, *[use for use in uses if use not in carried]]}


def _widest_flow(program, starts, ends):
    """The uses that carry a widest flow, and the modules that it could still spread to.

    Only the end that is found first is taken, and no step leads to a start. So no use carries
    anything out of an end or into a start.
    """
    carried = {}
    near = _spread(_steps(program, carried), starts)
    found = [module for module in near if module in ends]
    while found:
        carried = _widened(carried, _uses_behind(near, found[0]))
        near = _spread(_steps(program, carried), starts)
        found = [module for module in near if module in ends]
    return carried, near


def _without_loops(walk):
    """The modules of a walk as a chain: what lies between two visits of a module is left out."""
    way = []
    for module in walk:
        if module in way:
            way = way[:way.index(module)]
        way.append(module)
    return tuple(way)


def _chains_of(carried, starts, ends):
    """The chains from the starts to the ends that a flow consists of, ascending."""
    left = {}
    for user, used in carried:
        left.setdefault(user, []).append(used)
    found = []
    for start in starts:
        for first in list(left.get(start, [])):
            walk = [start, first]
            # What carries a flow into a module that is no end carries as much out of it.
            while walk[-1] not in ends:
                walk.append(left[walk[-1]].pop())
            found.append(_without_loops(walk))
    return tuple(sorted(found))


def separate(program, sources, targets):
    """The fewest uses that separate the sources from the targets, and as many chains between them."""
    _refuse_overlap(sources, targets)
    starts = modules_under(program, sources)
    ends = modules_under(program, targets)
    carried, near = _widest_flow(program, starts, ends)
    cuts = [(user, used) for user, used in program.uses if user in near and used not in near]
    return tuple(cuts), _chains_of(carried, starts, ends)


def _are_ascending(values):
    """Whether each of the values, which can be compared, comes before the next one."""
    return all([value < other for value, other in zip(values, values[1:])])


def _are_cuts(program, sources, targets, value):
    """Whether the value, of any kind, is an ascending tuple of uses that separate."""
    if not isinstance(value, tuple) or not all([use in program.uses for use in value]):
        return False
    if not _are_ascending(value):
        return False
    return chain(program - Program(program.modules, value), sources, targets) is None


def _are_parted_chains(program, sources, targets, value):
    """Whether the value, of any kind, is an ascending tuple of chains, no two of which share a use."""
    if not isinstance(value, tuple):
        return False
    if not all([chain_holds(program, sources, targets, way) for way in value]):
        return False
    uses = [use for way in value for use in zip(way, way[1:])]
    return _are_ascending(value) and len(set(uses)) == len(uses)


def separate_holds(program, sources, targets, value):
    """Whether the value, of any kind, is a pair of uses that separate and of as many parted chains."""
    _refuse_overlap(sources, targets)
    if not isinstance(value, tuple) or len(value) != 2:
        return False
    cuts, chains = value
    return (_are_cuts(program, sources, targets, cuts)
            and _are_parted_chains(program, sources, targets, chains) and len(cuts) == len(chains))
