"""A map: its places, and which of them are neighbours."""

from atonce.errors import NoPlace, OutOfReach


class Map:
    def __init__(self, size):
        self.size = size
        # A link is kept under both of its pairs, so that asking never depends on which place comes first.
        self.links = {}

    # The board asks this too: what is a place is the map's to say.
    def need_place(self, at):
        if at < 0 or at >= self.size:
            raise NoPlace(f"{at} is no place of the map")

    def link(self, a, b):
        # Both numbers are looked at before the two are held together: NoPlace comes ahead of OutOfReach.
        self.need_place(a)
        self.need_place(b)
        if a == b:
            raise OutOfReach(f"place {a} can not be its own neighbour")
        self.links[(a, b)] = True
        self.links[(b, a)] = True

    def beside(self, a, b):
        self.need_place(a)
        self.need_place(b)
        return (a, b) in self.links

    def near(self, a):
        self.need_place(a)
        return [b for b in range(self.size) if (a, b) in self.links]
