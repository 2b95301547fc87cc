"""Programs: modules that use one another, as objects that never change."""

from mayrest.bounds import MAX_MODULES, MAX_USES
from mayrest.errors import BadProgram, BadUse, Clash, TooMany
from mayrest.paths import covered, covers, is_path, overlap, parent


def _is_pair_of(value, modules):
    """Whether the value, of any kind, is a pair of two different ones of the modules."""
    return (isinstance(value, tuple) and len(value) == 2 and value[0] != value[1]
            and value[0] in modules and value[1] in modules)


def _is_pair_of_paths(value):
    """Whether the value, of any kind, is a pair of two different paths."""
    return (isinstance(value, tuple) and len(value) == 2
            and is_path(value[0]) and is_path(value[1]) and value[0] != value[1])


def _modules_error(modules):
    """The first reason why the value, of any kind, is not the modules of a program, or None."""
    if not isinstance(modules, tuple) or len(modules) > MAX_MODULES:
        return (None, "modules")
    for index, module in enumerate(modules):
        if not is_path(module):
            return (index, "path")
        if any([overlap(earlier, module) for earlier in modules[:index]]):
            return (index, "overlap")
    return None


def _uses_error(modules, uses):
    """The first reason why the value, of any kind, is not the uses between the modules, or None."""
    if not isinstance(uses, tuple) or len(uses) > MAX_USES:
        return (None, "uses")
    seen = set()
    for index, use in enumerate(uses):
        if not _is_pair_of(use, modules):
            return (index, "use")
        if use in seen:
            return (index, "again")
        seen.add(use)
    return None


def program_error(modules, uses):
    """The first reason why two values, of any kinds, make no program, or None if they make one."""
    error = _modules_error(modules)
    if error is None:
        error = _uses_error(modules, uses)
    return error


def modules_under(program, paths):
    """The modules of the program that one of the paths covers, ascending."""
    return [module for module in program.modules if covered(paths, module) is not None]


def _parts(modules):
    """The modules and all paths that cover one, ascending."""
    found = set()
    for module in modules:
        path = module
        while path is not None:
            found.add(path)
            path = parent(path)
    return tuple(sorted(found))


class Program:
    """Modules and the uses between them."""

    def __init__(self, modules, uses):
        error = program_error(modules, uses)
        if error is not None:
            raise BadProgram(error)
        self._modules = tuple(sorted(modules))
        self._uses = tuple(sorted(uses))
        self._parts = _parts(modules)

    @classmethod
    def of(cls, *uses):
        """The program of these uses, with exactly the modules that occur in them."""
        for index, use in enumerate(uses):
            if not _is_pair_of_paths(use):
                raise BadUse(index)
        modules = sorted({module for use in uses for module in use})
        return cls(tuple(modules), uses)

    @property
    def modules(self):
        return self._modules

    @property
    def uses(self):
        return self._uses

    @property
    def parts(self):
        return self._parts

    def within(self, path):
        """The modules that the path covers, ascending."""
        return tuple([module for module in self._modules if covers(path, module)])

    def includes(self, other):
        """Whether all modules and all uses of the other program are among those of this one."""
        return (all([module in self._modules for module in other.modules])
                and all([use in self._uses for use in other.uses]))

    def __len__(self):
        return len(self._uses)

    def __contains__(self, value):
        # The value may be of a kind that no set or dict can look for.
        return value in self._parts or value in self._uses

    def __eq__(self, other):
        if not isinstance(other, Program):
            return False
        return self.modules == other.modules and self.uses == other.uses

    def __or__(self, other):
        for module in other.modules:
            if any([mine != module and overlap(mine, module) for mine in self._modules]):
                raise Clash(module)
        modules = sorted(set(self.modules) | set(other.modules))
        if len(modules) > MAX_MODULES:
            raise TooMany(MAX_MODULES)
        uses = sorted(set(self.uses) | set(other.uses))
        if len(uses) > MAX_USES:
            raise TooMany(MAX_USES)
        return Program(tuple(modules), tuple(uses))

    def __and__(self, other):
        modules = tuple([module for module in self._modules if module in other.modules])
        return Program(modules, tuple([use for use in self._uses if use in other.uses]))

    def __sub__(self, other):
        return Program(self._modules, tuple([use for use in self._uses if use not in other.uses]))

    def __str__(self):
        return f"{len(self._modules)} modules, {len(self._uses)} uses"
