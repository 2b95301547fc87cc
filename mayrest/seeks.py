"""Short evidence against a book, for searches that go through many sets of uses of one program.

What a rule bars depends on the modules alone, so that it is found out once for all these sets.
"""

from mayrest.breaks import bars, circles, is_by_chains, places


def _barred_sides(rule, modules):
    """Pairs of users and of what the rule bars them from: one pair for each place with such modules."""
    stands = places(rule, modules)
    users = {}
    for module in modules:
        if stands[module] not in users:
            users[stands[module]] = []
        users[stands[module]].append(module)
    sides = []
    for place in users:
        useds = {module: True for module in modules if bars(rule[0], place, stands[module])}
        if useds:
            sides.append((users[place], useds))
    return sides


def seeks_for(program, book):
    """For each rule of the book its index, the rule, and what decides on it in programs with these modules."""
    found = []
    for index, rule in enumerate(book.rules):
        if rule[0] == "noring":
            found.append((index, rule, places(rule, program.modules)))
        else:
            found.append((index, rule, _barred_sides(rule, program.modules)))
    return found


def _nexts(uses):
    """The modules that each module uses, if it uses some."""
    table = {}
    for user, used in uses:
        if user not in table:
            table[user] = []
        table[user].append(used)
    return table


def _uses_to(before, end):
    """The uses that lead to the end, from a module before which none stands."""
    uses = []
    while before[end] is not None:
        uses.append((before[end], end))
        end = before[end]
    return tuple(uses[::-1])


def _short_chain(nexts, starts, ends):
    """The uses of a shortest chain from one of the starts to one of the ends, or None."""
    before = {start: None for start in starts}
    queue = list(starts)
    at = 0
    while at < len(queue):
        for used in nexts.get(queue[at], []):
            if used not in before:
                before[used] = queue[at]
                if used in ends:
                    return _uses_to(before, used)
                queue.append(used)
        at += 1
    return None


def _single_use(nexts, starts, ends):
    """One use from one of the starts to one of the ends, as evidence, or None."""
    for user in starts:
        for used in nexts.get(user, []):
            if used in ends:
                return ((user, used),)
    return None


def _all_evidence(seek, uses, nexts):
    """Evidence against the rule of the seek, with the shortest among it, if there is any."""
    _, rule, sought = seek
    if rule[0] == "noring":
        return circles(uses, sought, rule[1])
    if is_by_chains(rule):
        found = [_short_chain(nexts, starts, ends) for starts, ends in sought]
    else:
        found = [_single_use(nexts, starts, ends) for starts, ends in sought]
    return [evidence for evidence in found if evidence is not None]


def short_break(seeks, uses):
    """The index of a rule and evidence against it, with the fewest uses of all, or None.

    The uses, ascending, are the program's; the seeks are for its modules.
    """
    nexts = _nexts(uses)
    best = None
    for seek in seeks:
        for evidence in _all_evidence(seek, uses, nexts):
            if best is None or len(evidence) < len(best[1]):
                best = (seek[0], evidence)
        if best is not None and len(best[1]) == 1:
            break
    return best


def without(uses, gone):
    """The uses but for those that are gone."""
    return [use for use in uses if use not in gone]


def parted_breaks(seeks, uses, most):
    """As many breaks, but at most so many, as are found in turn without the uses of earlier ones."""
    found = []
    left = uses
    while len(found) < most:
        pair = short_break(seeks, left)
        if pair is None:
            break
        found.append(pair)
        left = without(left, pair[1])
    return found
