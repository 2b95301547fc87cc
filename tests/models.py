"""What the document says of programs, told once more in the plainest way, and programs to try it on.

Nothing here is taken from the package but the class Program and its errors.
"""

import itertools
import random

from mayrest.programs import Program

P = Program(("app.core", "app.db", "app.ui", "lib.log", "lib.net"),
            (("app.core", "app.db"), ("app.db", "lib.log"), ("app.ui", "app.core"), ("lib.net", "app.core")))
Q = Program.of(("lib.log", "app.ui"), ("app.ui", "lib.net"))
R = P | Program.of(("app.db", "app.ui"))
S = P | Program.of(("app.ui", "app.db"), ("lib.net", "lib.log"))
EMPTY = Program((), ())

# Eight modules, some of which share names at their ends or begin with the letters of other ones.
POOL = ("a.a", "a.b", "ab", "b", "c.a.a", "c.a.b", "c.b", "d")


def begins(path, other):
    """Whether the names of other begin with those of path."""
    names = path.split(".")
    return other.split(".")[:len(names)] == names


def under(paths, module):
    """Whether one of the paths covers the module."""
    return any(begins(path, module) for path in paths)


def pairs_of(modules):
    """All pairs of two different modules, ascending."""
    return sorted(itertools.permutations(modules, 2))


def by_size(rows):
    """The rows, fewer items first, then as tuples."""
    return sorted(rows, key=lambda row: (len(row), row))


def every_chain(program):
    """All chains of a small program, in their order."""
    found = []
    growing = [(module,) for module in program.modules]
    while growing:
        growing = [(*way, used) for way in growing for user, used in program.uses
                   if user == way[-1] and used not in way]
        found.extend(growing)
    return by_size(found)


def every_ring(program):
    """All rings of a small program, in their order."""
    return [way for way in every_chain(program) if (way[-1], way[0]) in set(program.uses)]


def all_programs(modules):
    """All programs with exactly these modules."""
    pairs = pairs_of(modules)
    for bits in range(2 ** len(pairs)):
        yield Program(tuple(modules), tuple(pair for at, pair in enumerate(pairs) if bits >> at & 1))


def random_program(rng, modules, most):
    """A program with these modules, and at most so many uses."""
    pairs = pairs_of(modules)
    many = rng.randint(0, min(most, len(pairs)))
    return Program(tuple(rng.sample(list(modules), len(modules))), tuple(rng.sample(pairs, many)))


def some_programs(seed, many, size, most):
    """So many programs with so many modules of the pool, and at most so many uses."""
    rng = random.Random(seed)
    return [random_program(rng, rng.sample(POOL, size), most) for _ in range(many)]


# Twenty-four modules, three parts with eight each.
CROWD = tuple(part + "." + name for part in ("a", "b.x", "c") for name in "abcdefgh")


def crowded(seed):
    """A program with 24 modules and 200 uses."""
    return Program(CROWD, tuple(random.Random(seed).sample(pairs_of(CROWD), 200)))


def crowded_downwards():
    """A program with 24 modules and 200 uses, each of a later module: it has no ring."""
    return Program(CROWD, tuple(pair for pair in pairs_of(CROWD) if pair[0] < pair[1])[:200])


def longest_ring():
    """A program with 24 modules, each of which uses the next one, and the last one the first one."""
    return Program(CROWD, tuple(zip(CROWD, CROWD[1:] + CROWD[:1])))


def distances(program):
    """For each pair of modules, how many uses the shortest way from one to the other has, if any leads there."""
    steps = {(module, module): 0 for module in program.modules}
    for use in program.uses:
        steps[use] = 1
    for middle, start, end in itertools.product(program.modules, repeat=3):
        if (start, middle) in steps and (middle, end) in steps:
            through = steps[start, middle] + steps[middle, end]
            steps[start, end] = min(through, steps.get((start, end), through))
    return steps


def first_way(program, steps, start, end):
    """The first chain from start to another module, by always going to the first module that is nearer."""
    way = [start]
    while way[-1] != end:
        left = steps[way[-1], end]
        way.append(min(used for user, used in program.uses
                       if user == way[-1] and steps.get((used, end)) == left - 1))
    return tuple(way)
