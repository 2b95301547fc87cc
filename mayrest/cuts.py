"""The fewest uses to take away so that a program keeps a book, and trees that show that fewer are not enough."""

from mayrest.books import has_index
from mayrest.bounds import MAX_CUTS
from mayrest.breaks import break_holds
from mayrest.errors import TooMany
from mayrest.seeks import parted_breaks, seeks_for, without


def _first_cuts(seeks, uses, kept, limit):
    """The first of the tuples of so many uses, none of them kept, without which no rule is broken, or None.

    No tuple with fewer uses is enough.
    """
    breaks = parted_breaks(seeks, uses, limit + 1)
    if len(breaks) == 0:
        return ()
    if len(breaks) > limit:
        return None
    # One of the uses of each evidence has to go.
    choices = min([without(evidence, kept) for index, evidence in breaks], key=len)
    found = []
    for at, use in enumerate(choices):
        # Tuples with an earlier one of the choices have been found already.
        rest = _first_cuts(seeks, without(uses, (use,)), [*kept, *choices[:at]], limit - 1)
        if rest is not None:
            found.append(tuple(sorted([use, *rest])))
    return min(found, default=None)


def fewest_cuts(program, book, *, most=MAX_CUTS):
    """The first tuple of the fewest uses without which the program keeps the book."""
    seeks = seeks_for(program, book)
    for limit in range(most + 1):
        cuts = _first_cuts(seeks, program.uses, [], limit)
        if cuts is not None:
            return cuts
    raise TooMany(most)


def _tree(seeks, uses, number):
    """A cut tree for these uses and the number, or None if there is none."""
    breaks = parted_breaks(seeks, uses, number + 1)
    if len(breaks) == 0:
        return None
    if len(breaks) > number:
        return ("apart", tuple(breaks))
    index, evidence = breaks[0]
    trees = []
    for use in evidence:
        tree = _tree(seeks, without(uses, (use,)), number - 1)
        if tree is None:
            return None
        trees.append(tree)
    return ("cases", index, evidence, tuple(trees))


def cut_tree(program, book, number):
    """A cut tree for the program, the book and the number, or None if so many uses are enough."""
    return _tree(seeks_for(program, book), program.uses, number)


def is_break(program, book, index, evidence):
    """Whether two values, of any kinds, are the index of a rule of the book and evidence against it."""
    return has_index(book, index) and break_holds(program, book.rules[index], evidence)


def _are_apart(program, book, cut, number, breaks):
    """Whether the value, of any kind, is one break more than the number, without common uses and without cut ones."""
    if not isinstance(breaks, tuple) or len(breaks) != number + 1:
        return False
    seen = list(cut)
    for pair in breaks:
        if not isinstance(pair, tuple) or len(pair) != 2 or not is_break(program, book, pair[0], pair[1]):
            return False
        if any([use in seen for use in pair[1]]):
            return False
        seen.extend(list(pair[1]))
    return True


def _is_tree(program, book, cut, number, value):
    """Whether the value, of any kind, is a cut tree for the program without the cut uses, and the number.

    Evidence in a program is evidence in it without some uses if it has none of these.
    """
    if not isinstance(value, tuple):
        return False
    if len(value) == 2 and value[0] == "apart":
        return _are_apart(program, book, cut, number, value[1])
    if len(value) != 4 or value[0] != "cases" or number == 0:
        return False
    _, index, evidence, trees = value
    if not is_break(program, book, index, evidence) or any([use in cut for use in evidence]):
        return False
    if not isinstance(trees, tuple) or len(trees) != len(evidence):
        return False
    return all([_is_tree(program, book, [*cut, use], number - 1, tree) for use, tree in zip(evidence, trees)])


def cut_tree_holds(program, book, number, value):
    """Whether the value, of any kind, is a cut tree for the program, the book and the number."""
    return _is_tree(program, book, [], number, value)
