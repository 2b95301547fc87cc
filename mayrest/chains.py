"""Chains and rings: how the modules of a program lead to one another."""

from mayrest.paths import covered
from mayrest.programs import modules_under


def next_table(program, backward=False):
    """The modules that each module uses, ascending; or backward, those that use it."""
    table = {}
    for module in program.modules:
        table[module] = []
    for user, used in program.uses:
        if backward:
            table[used].append(user)
        else:
            table[user].append(used)
    return table


def chains_from(nexts, start):
    """The first chain from start to each other one that it leads to; the first of them stands first.

    A dict, from the last one of each chain to the chain. Chains are compared by how many they have,
    then by the order that nexts gives to what follows each of them.
    """
    ways = {}
    queue = [(start,)]
    at = 0
    while at < len(queue):
        way = queue[at]
        for other in nexts[way[-1]]:
            # Ways come in their order, so that no later one to the same end comes before this one.
            if other != start and other not in ways:
                ways[other] = (*way, other)
                queue.append((*way, other))
        at += 1
    return ways


def ring_from(nexts, start):
    """The first ring that begins at start, or None; rings are compared as chains_from tells."""
    for end, way in chains_from(nexts, start).items():
        if start in nexts[end]:
            return way
    return None


def is_chain(program, value):
    """Whether the value, of any kind, is a chain of the program."""
    if not isinstance(value, tuple) or len(value) < 2:
        return False
    if not all([module in program.modules for module in value]):
        return False
    return len(set(value)) == len(value) and all([use in program.uses for use in zip(value, value[1:])])


def chain(program, sources, targets):
    """The first chain from the sources to the targets, or None if there is none."""
    nexts = next_table(program)
    ends = modules_under(program, targets)
    found = []
    # One search from all sources at once would lose a chain that ends at another one of them.
    for start in modules_under(program, sources):
        found.extend([way for end, way in chains_from(nexts, start).items() if end in ends])
    return min(found, key=lambda way: (len(way), way), default=None)


def chain_holds(program, sources, targets, value):
    """Whether the value, of any kind, is a chain from the sources to the targets."""
    return (is_chain(program, value)
            and covered(sources, value[0]) is not None and covered(targets, value[-1]) is not None)


def reached(program, paths, *, backward=False):
    """The modules to which chains lead from the paths; or backward, those from which they lead to them."""
    nexts = next_table(program, backward)
    found = set()
    for start in modules_under(program, paths):
        for module in chains_from(nexts, start):
            found.add(module)
    return tuple(sorted(found))


def _group_of(module, reach):
    """The modules that the module leads to and that lead back to it, and itself, ascending."""
    return tuple([other for other in reach
                  if other == module or (other in reach[module] and module in reach[other])])


def groups(program):
    """All groups; each stands behind those with a use that leads into it, else the first one first."""
    nexts = next_table(program)
    reach = {module: chains_from(nexts, module) for module in program.modules}
    waiting = []
    for module in program.modules:
        group = _group_of(module, reach)
        if group[0] == module:
            waiting.append(group)
    placed = []
    while waiting:
        # Each module of a group leads to all of it, so that the first modules tell for all of them.
        ready = [group for group in waiting if not any([group[0] in reach[other[0]] for other in waiting])]
        placed.append(ready[0])
        waiting = [group for group in waiting if group != ready[0]]
    return tuple(placed)


def ring(program, module):
    """The first ring that begins at the module, or None if it lies on none."""
    return ring_from(next_table(program), module)


def ring_holds(program, value):
    """Whether the value, of any kind, is a ring of the program."""
    return is_chain(program, value) and (value[-1], value[0]) in program.uses
