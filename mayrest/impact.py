"""What a change touches, and which uses a program could do without."""

from mayrest.chains import chains_from, next_table, reached, ring
from mayrest.errors import Ring
from mayrest.paths import covered
from mayrest.programs import Program


def touched(program, paths):
    """The modules that the paths cover, and those from which a chain leads to the paths."""
    behind = reached(program, paths, backward=True)
    return tuple([module for module in program.modules
                  if module in behind or covered(paths, module) is not None])


def _is_spare(nexts, user, used):
    """Whether a chain leads from user to used that does not consist of these two alone."""
    # The use itself has no place in such a chain, which begins and ends with its two modules.
    others = [module for module in nexts[user] if module != used]
    return used in chains_from({**nexts, user: others}, user)


def spare_uses(program):
    """The spare uses of the program, ascending."""
    nexts = next_table(program)
    return tuple([(user, used) for user, used in program.uses if _is_spare(nexts, user, used)])


def reduced(program):
    """The program with the fewest uses in which chains join the same pairs of modules."""
    for module in program.modules:
        circle = ring(program, module)
        if circle is not None:
            raise Ring(circle)
    spare = spare_uses(program)
    return Program(program.modules, tuple([use for use in program.uses if use not in spare]))
