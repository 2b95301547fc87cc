"""Levels and orders: how some paths of a program rest on one another."""

from mayrest.breaks import circles, first_evidence
from mayrest.errors import Circular, Overlap
from mayrest.paths import covered, overlap


def _refuse_overlap(paths):
    """Raise Overlap with the first path that overlaps an earlier one, if one does."""
    for index, path in enumerate(paths):
        if any([overlap(path, earlier) for earlier in paths[:index]]):
            raise Overlap(path)


def _stands(program, paths):
    """For each module, the path that covers it, or None."""
    return {module: covered(paths, module) for module in program.modules}


def _uses_between(program, paths):
    """For each two paths of which one rests on the other: the uses from this one to that one."""
    stands = _stands(program, paths)
    found = {}
    for user, used in program.uses:
        pair = (stands[user], stands[used])
        if None not in pair and pair[0] != pair[1]:
            if pair not in found:
                found[pair] = []
            found[pair].append((user, used))
    return found


def _refuse_circles(program, paths):
    """Raise Circular with the first evidence that paths rest on one another in a ring, if there is any."""
    evidence = first_evidence(circles(program.uses, _stands(program, paths), paths))
    if evidence is not None:
        raise Circular(evidence)


def levels(program, paths):
    """Rows of paths, from the top to the bottom: each stands as high as those that rest on it let it."""
    _refuse_overlap(paths)
    _refuse_circles(program, paths)
    rests = _uses_between(program, paths)
    left = sorted(paths)
    rows = []
    while left:
        row = [path for path in left if not any([(upper, path) in rests for upper in left])]
        rows.append(tuple(row))
        left = [path for path in left if path not in row]
    return tuple(rows)


def tower(program, paths):
    """The first of the longest sequences of paths, each of which rests on the next one."""
    rows = levels(program, paths)
    rests = _uses_between(program, paths)
    # A longest sequence has one path of each row. These are the paths with which it can go on to the bottom.
    fitting = [rows[-1]]
    for row in rows[-2::-1]:
        lowers = fitting[0]
        fitting = [[path for path in row if any([(path, lower) in rests for lower in lowers])], *fitting]
    sequence = [fitting[0][0]]
    for row in fitting[1:]:
        sequence.append([path for path in row if (sequence[-1], path) in rests][0])
    return tuple(sequence)


def _counts(program, paths):
    """For each path, and in it for each path: the number of uses from the former to the latter."""
    between = _uses_between(program, paths)
    return [[len(between.get((upper, lower), [])) for lower in paths] for upper in paths]


def _members(at, many):
    """The indexes, of so many, that belong to the set with the index at."""
    return [index for index in range(many) if at >> index & 1]


def _added(row, at):
    """The number of uses, counted in the row of one path, to the paths of the set with the index at."""
    return sum([row[index] for index in _members(at, len(row))])


def _table(counts):
    """For each set of paths, the fewest uses against an order of them."""
    table = [0]
    for at in range(1, 1 << len(counts)):
        # The last path of the order is tried out; what it uses of the others is against the order.
        table.append(min([table[at - (1 << last)] + _added(counts[last], at - (1 << last))
                          for last in _members(at, len(counts))]))
    return table


def order_table(program, paths):
    """For each set of the paths, by its index, the fewest uses against an order of them alone."""
    _refuse_overlap(paths)
    return tuple(_table(_counts(program, paths)))


def _begins_best(counts, table, first, at):
    """Whether a best order of the set with the index at can begin with this one of its members."""
    rest = at - (1 << first)
    against = sum([counts[index][first] for index in _members(rest, len(counts))])
    return table[at] == table[rest] + against


def best_order(program, paths):
    """The first of the orders against which there are the fewest uses, and the uses against it."""
    _refuse_overlap(paths)
    names = sorted(paths)
    counts = _counts(program, names)
    table = _table(counts)
    order = []
    at = len(table) - 1
    while at:
        first = [index for index in _members(at, len(names)) if _begins_best(counts, table, index, at)][0]
        order.append(names[first])
        at = at - (1 << first)
    against = [use for (upper, lower), uses in _uses_between(program, names).items()
               if order.index(upper) > order.index(lower) for use in uses]
    return tuple(order), tuple(sorted(against))


def _are_numbers(value, many):
    """Whether the value, of any kind, is a tuple of so many integers."""
    return (isinstance(value, tuple) and len(value) == many
            and all([isinstance(item, int) and not isinstance(item, bool) for item in value]))


def table_holds(program, paths, value):
    """Whether the value, of any kind, shows that no order has fewer uses against it than its last number."""
    _refuse_overlap(paths)
    counts = _counts(program, paths)
    if not _are_numbers(value, 1 << len(paths)) or value[0] != 0:
        return False
    for at, number in enumerate(value):
        for index, row in enumerate(counts):
            if not at >> index & 1 and value[at + (1 << index)] > number + _added(row, at):
                return False
    return True
