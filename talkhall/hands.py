"""A hand, by which somebody reads: it keeps which rows of which room it was told."""


class Hand:
    def __init__(self, owner):
        self.owner = owner
        self.told = {}

    def told_in(self, room):
        return self.told.get(room, {})

    def take(self, room, numbers, most):
        # Not a mark alone: who comes again to a shown past sees rows ahead of those that were told.
        told = self.told_in(room)
        fresh = [number for number in numbers if number not in told]
        taken = fresh[:max(most, 0)]
        self.told[room] = dict([(number, True) for number in list(told) + taken])
        return taken

    def lose(self, room, last):
        self.told[room] = dict([(number, True) for number in self.told_in(room) if number <= last])
