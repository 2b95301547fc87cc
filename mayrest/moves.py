"""The fewest modules to move so that a program keeps a book, and trees that show that fewer are not enough."""

from mayrest.bounds import MAX_MOVES
from mayrest.breaks import bars, circles, is_by_chains, places
from mayrest.chains import chains_from, next_table
from mayrest.cuts import is_break
from mayrest.errors import Clash, TooMany, Unclear
from mayrest.paths import last_name, overlap, parent
from mayrest.programs import Program


def _path_behind(move):
    """The path that the module of the move gets."""
    module, home = move
    return home + "." + last_name(module)


def moved(program, moves):
    """The program after the moves, all at the same time."""
    names = {module: module for module in program.modules}
    for move in moves:
        names[move[0]] = _path_behind(move)
    for path, module in sorted([(names[module], module) for module, home in moves]):
        if any([overlap(path, names[other]) for other in program.modules if other != module]):
            raise Clash(path)
    uses = tuple([(names[user], names[used]) for user, used in program.uses])
    return Program(tuple([names[module] for module in program.modules]), uses)


def _refuse_unclear(program, homes):
    """Raise Unclear with the first last name of a module that stands anywhere else, if one does."""
    names = [name for path in [*program.modules, *homes] for name in path.split(".")]
    for name in sorted([last_name(module) for module in program.modules]):
        if names.count(name) > 1:
            raise Unclear(name)


def _moves_against(evidence, homes, done):
    """The moves of the modules in the evidence whose last names are not done, in the order of a move tree."""
    modules = sorted({module for use in evidence for module in use})
    return [(module, home) for module in modules if last_name(module) not in done
            for home in homes if home != parent(module)]


def _joined_pairs(program):
    """The pairs of modules of which a chain leads from the first one to the second one."""
    nexts = next_table(program)
    return [(start, end) for start in program.modules for end in chains_from(nexts, start)]


def _keeps_rule(rule, pairs, stands):
    """Whether modules in these places keep the rule, if these pairs are all that it has to look at."""
    if rule[0] == "noring":
        return len(circles(pairs, stands, rule[1])) == 0
    for user, used in pairs:
        if bars(rule[0], stands[user], stands[used]):
            return False
    return True


def _moves_that_keep(program, book, moves):
    """Those of the moves, each by itself, after which the program keeps the book."""
    joined = _joined_pairs(program)
    left = moves
    for rule in book.rules:
        pairs = joined if is_by_chains(rule) else program.uses
        stands = places(rule, [*program.modules, *[_path_behind(move) for move in moves]])
        left = [move for move in left
                if _keeps_rule(rule, pairs, {**stands, move[0]: stands[_path_behind(move)]})]
    return left


def _short_finding(findings):
    """One of the findings with the fewest uses in its evidence."""
    return min(findings, key=lambda finding: len(finding[1]))


def _first_moves(program, book, homes, done, limit):
    """The first of the tuples of so many moves, none of a last name that is done, that make the program
    keep the book, or None. No tuple with fewer moves is enough.
    """
    findings = book(program)
    if len(findings) == 0:
        return ()
    if limit == 0:
        return None
    # Evidence stays evidence until one of its modules is moved.
    moves = _moves_against(_short_finding(findings)[1], homes, done)
    if limit == 1:
        return min([(move,) for move in _moves_that_keep(program, book, moves)], default=None)
    found = []
    for move in moves:
        names = [*done, last_name(move[0])]
        rest = _first_moves(moved(program, (move,)), book, homes, names, limit - 1)
        if rest is not None:
            found.append(tuple(sorted([move, *rest])))
    return min(found, default=None)


def fewest_moves(program, book, homes, *, most=MAX_MOVES):
    """The first tuple of the fewest moves to the homes after which the program keeps the book."""
    _refuse_unclear(program, homes)
    for limit in range(most + 1):
        moves = _first_moves(program, book, homes, [], limit)
        if moves is not None:
            return moves
    raise TooMany(most)


def _tree(program, book, homes, done, number):
    """A move tree for the program, last names that are done and the number, or None if there is none."""
    findings = book(program)
    if len(findings) == 0:
        return None
    index, evidence = _short_finding(findings)
    moves = _moves_against(evidence, homes, done)
    if number == 0:
        return ("left", index, evidence)
    trees = []
    for move in moves:
        tree = _tree(moved(program, (move,)), book, homes, [*done, last_name(move[0])], number - 1)
        if tree is None:
            return None
        trees.append(tree)
    return ("cases", index, evidence, tuple(trees))


def move_tree(program, book, homes, number):
    """A move tree for the program, the book, the homes and the number, or None if so many moves are enough."""
    _refuse_unclear(program, homes)
    return _tree(program, book, homes, [], number)


def _is_left(evidence, done, number):
    """Whether nothing is left to be moved: by the number, or in the evidence."""
    return number == 0 or all([last_name(module) in done for use in evidence for module in use])


def _is_tree(program, book, homes, done, number, value):
    """Whether the value, of any kind, is a move tree for these."""
    if not isinstance(value, tuple) or len(value) not in (3, 4) or not is_break(program, book, value[1], value[2]):
        return False
    evidence = value[2]
    if len(value) == 3:
        return value[0] == "left" and _is_left(evidence, done, number)
    trees = value[3]
    moves = _moves_against(evidence, homes, done)
    if value[0] != "cases" or number == 0 or not isinstance(trees, tuple) or len(trees) != len(moves):
        return False
    return all([_is_tree(moved(program, (move,)), book, homes, [*done, last_name(move[0])], number - 1, tree)
                for move, tree in zip(moves, trees)])


def move_tree_holds(program, book, homes, number, value):
    """Whether the value, of any kind, is a move tree for the program, the book, the homes and the number."""
    _refuse_unclear(program, homes)
    return _is_tree(program, book, homes, [], number, value)
