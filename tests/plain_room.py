"""A plain room that halves and joins free blocks one by one.

Nothing here uses the package. Blocks are pairs (start, order) of small ints.
"""

from tests.plain_book import Refused


class PlainRoom:
    def __init__(self, top):
        self.top = top
        self.kept = {}
        self.free = {(0, top)}
        self.guarded = {}
        self.past = []

    def state(self):
        return (dict(self.kept), set(self.free), dict(self.guarded), list(self.past))

    def restore(self, state):
        self.kept, self.free, self.guarded = dict(state[0]), set(state[1]), dict(state[2])
        self.past = list(state[3])

    def release(self, start, order):
        """Frees a block and joins it with its other half as long as that is free."""
        while (start ^ (1 << order), order) in self.free:
            self.free.remove((start ^ (1 << order), order))
            start &= ~(1 << order)
            order += 1
        self.free.add((start, order))
        return (start, order)

    def claim(self, start, order):
        """Takes a block out of the free block that it lies in, which is halved."""
        held = [(s, k) for s, k in self.free if s <= start and start + (1 << order) <= s + (1 << k)]
        s, k = held[0]
        self.free.remove((s, k))
        while k > order:
            k -= 1
            upper = s + (1 << k)
            self.free.add((s if start >= upper else upper, k))
            s = upper if start >= upper else s

    def looked_at(self, order):
        """The free block (order, start) that take looks at."""
        return min([(k, s) for s, k in self.free if k >= order], default=None)

    def greatest(self):
        return max([k for _, k in self.free], default=None)

    def place_for(self, order):
        found = self.looked_at(order)
        if found is None:
            raise Refused("NoBuddy", order=order, most=self.greatest())
        return found[1]

    def cells(self):
        return {p for s, k in self.free for p in range(s, s + (1 << k))}

    def fits(self, order):
        cells = self.cells()
        size = 1 << order
        return sum(all(p in cells for p in range(s, s + size)) for s in range(0, 1 << self.top, size)) \
            if order <= self.top else 0

    def look(self):
        """Whether a guard is broken; the one of the least order."""
        for order in sorted(self.guarded):
            if self.fits(order) < self.guarded[order]:
                raise Refused("Guarded", order=order, many=self.guarded[order])

    def deed(self, action):
        """Does a deed, or nothing of it if it is refused."""
        before = self.state()
        try:
            result = action()
        except Refused:
            self.restore(before)
            raise
        self.past = before[3] + [before[:3]]
        return result

    def known(self, name):
        if name not in self.kept:
            raise Refused("UnknownName", name=name)

    def take(self, name, order):
        if name in self.kept:
            raise Refused("NameTaken", name=name)
        return self.deed(lambda: self.put(name, order))

    def put(self, name, order, start=None):
        start = self.place_for(order) if start is None else start
        self.claim(start, order)
        self.kept[name] = (start, order)
        self.look()
        return (start, start + (1 << order))

    def give(self, name):
        self.known(name)

        def action():
            start, order = self.release(*self.kept.pop(name))
            return (start, start + (1 << order))
        return self.deed(action)

    def assign(self, name, order):
        def action():
            if name not in self.kept:
                self.put(name, order)
                return
            start, k = self.kept.pop(name)
            self.release(start, k)
            cells = self.cells()
            stays = start % (1 << order) == 0 and all(p in cells for p in range(start, start + (1 << order)))
            self.put(name, order, start if order <= k or stays else None)
        self.deed(action)

    def guard(self, order, many):
        if self.fits(order) < many:
            raise Refused("Guarded", order=order, many=many)

        def action():
            self.guarded[order] = many
            if many == 0:
                del self.guarded[order]
        self.deed(action)

    def undo(self):
        if not self.past:
            raise Refused("NothingToUndo")
        past = self.past[:-1]
        self.restore((*self.past[-1], past))

    def names(self):
        return sorted(self.kept, key=lambda name: self.kept[name])

    def who(self, address):
        for name, (start, order) in self.kept.items():
            if start <= address < start + (1 << order):
                return name
        return None

    def blocks(self):
        """The free blocks as ranges, ascending."""
        return sorted((s, s + (1 << k)) for s, k in self.free)
