"""Gaps between rules: the fewest uses that some rules allow and that break one of some others.

Which rules a program breaks depends on its uses and on the cells of its modules alone. So one or two
modules stand for all modules of a cell. A program with the fewest uses that breaks a rule has those of
one evidence. Of a chain, modules of one cell are needed once: a shorter chain leads past what lies
between two of them. Against a "noring" rule, uses without common modules make no chains.
"""

from mayrest.bounds import MAX_LISTED
from mayrest.breaks import bars, circles, is_by_chains, places, uses_of
from mayrest.errors import TooMany
from mayrest.paths import covers
from mayrest.rules import rule_paths

LETTERS = "abcdefghijklmnopqrstuvwxyz"


def listed_paths(rules):
    """The paths that stand anywhere in the rules, ascending."""
    return sorted({path for rule in rules for path in rule_paths(rule)})


def _fresh_names(paths):
    """Two names that stand in none of the paths."""
    # Six paths of four names leave two letters of all twenty-six.
    taken = [name for path in paths for name in path.split(".")]
    return [letter for letter in LETTERS if letter not in taken][:2]


def _modules_with(name, paths):
    """One module in each cell for the paths; the name stands in none of them."""
    return [name, *[path + "." + name for path in paths]]


def _barred_pairs(rules, users, useds):
    """The pairs of a user and a used module that one of the rules bars, as a dict."""
    found = {}
    for rule in rules:
        if rule[0] != "noring":
            stands = places(rule, [*users, *useds])
            for user in users:
                for used in useds:
                    if bars(rule[0], stands[user], stands[used]):
                        found[(user, used)] = True
    return found


def _ringed(rules, modules):
    """For each rule that is a "noring": where the modules stand for it, and its paths."""
    return [(places(rule, modules), rule[1]) for rule in rules if rule[0] == "noring"]


def _keeps_ringed(rings, uses):
    """Whether the uses break none of these "noring" rules."""
    return not any([circles(sorted(uses), stands, paths) for stands, paths in rings])


def _longer_ways(ways, modules, near, far):
    """The chains with one module more, without a pair in near side by side or one in far anywhere."""
    longer = []
    for way in ways:
        for module in modules:
            if module not in way and (way[-1], module) not in near:
                if not any([(earlier, module) in far for earlier in way]):
                    longer.append((*way, module))
    return longer


def _chain_gap(rules, others, modules):
    """The fewest uses of a chain that keep the rules, and break one of the others by a barred pair."""
    near = _barred_pairs(rules, modules, modules)
    far = _barred_pairs([rule for rule in rules if is_by_chains(rule)], modules, modules)
    sought = _barred_pairs(others, modules, modules)
    sought_far = _barred_pairs([rule for rule in others if is_by_chains(rule)], modules, modules)
    rings = _ringed(rules, modules)
    ways = [(module,) for module in modules]
    while ways:
        longer = _longer_ways(ways, modules, near, far)
        ways = [way for way in longer if _keeps_ringed(rings, uses_of(way))]
        for way in ways:
            if (way[0], way[-1]) in (sought if len(way) == 2 else sought_far):
                return uses_of(way)
        # A single use has told all that a rule about single uses could tell.
        ways = [way for way in ways if any([(way[0], module) in sought_far for module in modules])]
    return None


def _allowed_uses(rules, users, useds, paths):
    """For each pair of different paths, the uses from one to the other that the rules do not bar."""
    near = _barred_pairs(rules, users, useds)
    table = {}
    for upper in paths:
        for lower in paths:
            if upper != lower:
                table[(upper, lower)] = [
                    (user, used) for user in users for used in useds
                    if covers(upper, user) and covers(lower, used) and (user, used) not in near]
    return table


def _next_paths(paths, passed):
    """The paths to which a circle that has passed these ones may go on; to the first one, it closes."""
    # Each circle begins at that one of its paths that stands first in the rule.
    later = paths[paths.index(passed[0]):]
    return [path for path in later if path == passed[0] or path not in passed]


def _circle_gap(rules, paths, users, useds):
    """The fewest uses that keep the rules and break the "noring" rule with these paths, or None."""
    allowed = _allowed_uses(rules, users, useds, paths)
    rings = _ringed(rules, [*users, *useds])
    walks = [((path,), ()) for path in paths]
    while walks:
        longer = []
        for passed, uses in walks:
            steps = [(path, (*uses, use)) for path in _next_paths(paths, passed)
                     for use in allowed.get((passed[-1], path), [])]
            for path, more in steps:
                if _keeps_ringed(rings, more):
                    if path == passed[0]:
                        return more
                    longer.append(((*passed, path), more))
        walks = longer
    return None


def gap(rules, others):
    """The fewest uses of a program that keeps the rules and breaks one of the others, or None.

    Such a program has them and their modules alone. Raises TooMany if too many paths are listed.
    """
    paths = listed_paths([*rules, *others])
    if len(paths) > MAX_LISTED:
        raise TooMany(MAX_LISTED)
    first, second = _fresh_names(paths)
    users, useds = _modules_with(first, paths), _modules_with(second, paths)
    found = [_circle_gap(rules, rule[1], users, useds) for rule in others if rule[0] == "noring"]
    found.append(_chain_gap(rules, others, users))
    return min([uses for uses in found if uses is not None], key=len, default=None)
