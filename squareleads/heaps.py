"""A heap that shapes are added to and taken off."""

from squareleads.errors import BadKind, BadRoot, TooMuch
from squareleads.leading import lead_down
from squareleads.makings import fewest_roots
from squareleads.shapes import is_kind, is_root, shape

MOST_HEAPED = 1000000


class Heap:
    """A heap of one kind of shapes, 0 at first, at most 1000000."""

    def __init__(self, kind):
        if not is_kind(kind):
            raise BadKind("a kind is 0, for squares, or 1, for triangles")
        self.kind = kind
        self.amount = 0
        self.done = []

    def add(self, root):
        """Add the root's shape, and give how great the heap is then."""
        if not is_root(root):
            raise BadRoot("no number from 1 on")
        amount = self.amount + shape(self.kind, root)
        if amount > MOST_HEAPED:
            raise TooMuch(f"the heap would be greater than {MOST_HEAPED}")
        self.amount = amount
        self.done.append(root)
        return amount

    def take(self, root):
        """Take the root's shape off, and give how great the heap is then."""
        if not is_root(root):
            raise BadRoot("no number from 1 on")
        amount = self.amount - shape(self.kind, root)
        if amount < 0:
            raise BadRoot("the shape is greater than the heap")
        self.amount = amount
        self.done.append(-root)
        return amount

    def total(self):
        """Give how great the heap is."""
        return self.amount

    def need(self):
        """Give how few shapes make the heap, 0 for none."""
        return len(fewest_roots(self.kind, self.amount))

    def leads(self):
        """Give how the heap is led down."""
        return lead_down(self.kind, self.amount)

    def deeds(self):
        """Give all deeds in turn: the root that was added, or, with a minus, taken."""
        return list(self.done)
