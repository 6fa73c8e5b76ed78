"""A plain book: rooms as ranges of small addresses, kept addresses as a set.

Nothing here uses the package. Sizes, starts and addresses are small ints.
"""


class Refused(Exception):
    """What the book of the package has to raise: the name of the error and its fields."""

    def __init__(self, error, **fields):
        super().__init__(error, fields)
        self.error = error
        self.fields = fields


class PlainBook:
    MOST_ROOMS = 40

    def __init__(self, limit):
        self.limit = limit
        self.table = {}
        self.barred = set()
        self.past = []

    def state(self):
        return (self.table, self.barred, list(self.past))

    def restore(self, state):
        self.table, self.barred, self.past = state[0], state[1], list(state[2])

    def done(self):
        """Before each change, which puts new objects in place."""
        self.past.append((self.table, self.barred))

    def who(self, address):
        for name, (start, stop) in self.table.items():
            if start <= address < stop:
                return name
        return None

    def free(self, address, but=None):
        return 0 <= address < self.limit and address not in self.barred and self.who(address) in (None, but)

    def fits(self, start, size, but=None):
        return all(self.free(p, but) for p in range(start, start + size))

    def least(self, size, level, above, but=None):
        for start in range(above, self.limit):
            if start % 2**level == 0 and self.fits(start, size, but):
                return start
        return None

    def known(self, name):
        if name not in self.table:
            raise Refused("UnknownName", name=name)

    def take(self, name, size, level=0, above=0):
        if name in self.table:
            raise Refused("NameTaken", name=name)
        if size < 1:
            raise Refused("InvalidSize", amount=size)
        if len(self.table) == self.MOST_ROOMS:
            raise Refused("TooManyRooms", name=name)
        start = self.least(size, level, above)
        if start is None:
            raise Refused("NoRoom", name=name, amount=size)
        self.done()
        self.table = {**self.table, name: (start, start + size)}
        return start

    def give(self, name):
        self.known(name)
        self.done()
        self.table = {other: self.table[other] for other in self.table if other != name}

    def resize(self, name, size):
        self.known(name)
        if size < 1:
            raise Refused("InvalidSize", amount=size)
        start = self.table[name][0]
        if not self.fits(start, size, name):
            raise Refused("NoRoom", name=name, amount=size)
        self.done()
        self.table = {**self.table, name: (start, start + size)}

    def move(self, name, level=0, above=0):
        self.known(name)
        start, stop = self.table[name]
        target = self.least(stop - start, level, above, name)
        if target is None:
            raise Refused("NoRoom", name=name, amount=stop - start)
        self.done()
        self.table = {**self.table, name: (target, target + stop - start)}
        return target

    def pack(self, level=0):
        behind = 0
        table = {}
        led = {}
        for name in self.names():
            start, stop = self.table[name]
            target = behind
            while target % 2**level or any(p in self.barred for p in range(target, target + stop - start)):
                target += 1
            behind = target + stop - start
            if behind > self.limit:
                raise Refused("NoRoom", name=name, amount=stop - start)
            table[name] = (target, behind)
            led.update({start + k: target + k for k in range(stop - start)})
        self.done()
        self.table = table
        return led

    def inside(self, start, stop):
        if not 0 <= start <= stop:
            raise Refused("InvalidRange", start=start, stop=stop)
        if stop > self.limit:
            raise Refused("Outside", address=stop)

    def keep(self, start, stop):
        self.inside(start, stop)
        there = [name for name in self.names() if any(self.who(p) == name for p in range(start, stop))]
        if there:
            raise Refused("RoomThere", name=there[0])
        self.done()
        self.barred = self.barred | set(range(start, stop))

    def unkeep(self, start, stop):
        self.inside(start, stop)
        self.done()
        self.barred = self.barred - set(range(start, stop))

    def undo(self):
        if not self.past:
            raise Refused("NothingToUndo")
        self.table, self.barred = self.past.pop()

    def names(self):
        return sorted(self.table, key=lambda name: self.table[name])

    def best(self, level, above):
        sizes = [size for size in range(1, self.limit + 1) if self.least(size, level, above) is not None]
        return max(sizes, default=0)
