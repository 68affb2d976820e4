"""One way through a view, down or across: which points its places show, and how far it must be scrolled."""


class Lane:
    """The sizes along a way, so many places of the screen, so many first things held, and the scroll."""

    def __init__(self, sizes, length, hold, turn):
        self.sizes = sizes
        self.length = length
        # What is held, as a sum of sizes: it may go beyond the screen.
        self.still = sizes.ahead(hold)
        self.turn = turn

    def greatest_turn(self):
        """The greatest scroll that there can be."""
        if self.still >= self.length:
            return 0
        return max(0, self.sizes.total() - self.length)

    def can_turn(self, turn):
        """True where there can be this scroll."""
        return 0 <= turn <= self.greatest_turn()

    def point_of(self, place):
        """The point that a place shows."""
        return place if place < self.still else place + self.turn

    def places_of(self, first, many):
        """The places that show so many things from a number on."""
        begin, counted = self.sizes.reach(first, many)
        return [place for place in range(self.length) if begin <= self.point_of(place) < begin + counted]

    def turn_to_show(self, first, many):
        """The scroll nearest to this one that shows so many things from a number on, as far as they have room."""
        begin, counted = self.sizes.reach(first, many)
        if counted == 0 or begin < self.still or self.still >= self.length:
            return self.turn
        room = self.length - self.still
        to_begin = begin - self.still
        if to_begin < self.turn or counted > room:
            return to_begin
        return max(self.turn, to_begin + counted - room)
