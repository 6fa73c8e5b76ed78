"""Numbers by name, with changes that can be taken back."""

from farbits.errors import InvalidName, UnknownName
from farbits.far import Far, Sound, number_form
from farbits.history import Log
from farbits.limits import judged
from farbits.names import is_name


class Store:
    """Numbers by name. Its content is a dict of their forms, which never changes."""

    def __init__(self, values=None):
        given = {} if values is None else values
        for name in given:
            if not is_name(name):
                raise InvalidName(name)
        forms = {}
        for name in sorted([str(name) for name in given]):
            forms[name] = judged(number_form(given[name]))
        self._log = Log(forms)

    def __getitem__(self, at):
        forms = self._log.content()
        if not is_name(at) or at not in forms:
            raise UnknownName(at)
        return Far(Sound(forms[at]))

    def __setitem__(self, at, worth):
        if not is_name(at):
            raise InvalidName(at)
        form = judged(number_form(worth))
        forms = self._log.content()
        self._log.go_on({**forms, at: form})

    def __iter__(self):
        raise TypeError("a store is not iterated over")

    def __contains__(self, x):
        return is_name(x) and x in self._log.content()

    def __len__(self):
        return len(self._log.content())

    def names(self):
        """The list of the names, ascending."""
        return sorted([str(name) for name in self._log.content()])

    def table(self):
        """A new dict of all names and numbers."""
        forms = self._log.content()
        return {name: Far(Sound(forms[name])) for name in self.names()}

    def drop(self, name):
        """Holds a name no longer."""
        forms = self._log.content()
        if not is_name(name) or name not in forms:
            raise UnknownName(name)
        self._log.go_on({other: forms[other] for other in forms if other != name})

    def forms(self):
        """A new dict of all names and forms."""
        return dict(self._log.content())

    def hold(self, forms):
        """Takes a dict of names and forms, none of them too large, as one change."""
        self._log.go_on(dict(forms))

    def copied(self):
        """A new store with the same names and numbers, and nothing to undo."""
        return Store(self.table())

    def undo(self):
        """Takes the last change back that is not taken back yet."""
        self._log.go_back()

    def undoable(self):
        """How many changes can be taken back."""
        return self._log.many_before()

    def attempt(self, action):
        """What action(store) returns; if it raises an error, the store is as before."""
        return self._log.attempted(self, action)

    def explore(self, action):
        """What action(store) returns; the store is as before in any case."""
        return self._log.explored(self, action)
