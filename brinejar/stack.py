"""The stack of the machine."""


class Stack:
    """Values and classes, in segments with a mark between each two of them."""

    def __init__(self):
        self._segments = [[]]

    def push(self, item):
        """Put an item on top."""
        self._segments[-1].append(item)

    def push_mark(self):
        """Put a mark on top."""
        self._segments.append([])

    def has_mark(self):
        """Tell whether there is a mark."""
        return len(self._segments) > 1

    def has_below(self):
        """Tell whether there is an item directly below the last mark."""
        return self.has_mark() and len(self._segments[-2]) > 0

    def above(self):
        """Return how many items are above the last mark."""
        return len(self._segments[-1])

    def peek(self, depth):
        """Return the item above the last mark that has so many items on it."""
        return self._segments[-1][-1 - depth]

    def peek_below(self):
        """Return the item directly below the last mark."""
        return self._segments[-2][-1]

    def peek_marked(self):
        """Return the list of the items above the last mark, the top one last."""
        return list(self._segments[-1])

    def take(self):
        """Remove the item on top and return it."""
        return self._segments[-1].pop()

    def take_many(self, count):
        """Remove so many items and return their list, the top one last."""
        return [self.take() for _ in range(count)][::-1]

    def take_marked(self):
        """Remove the last mark with the items above it, and return their list."""
        return self._segments.pop()

    def pieces(self):
        """Return the list of the lists of items that the marks separate."""
        return [list(segment) for segment in self._segments]
