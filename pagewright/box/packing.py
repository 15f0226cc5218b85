"""Boxes: as much of them as items need."""

from pagewright.box.frames import Frame


class Box(Frame):
    """A row or a column of items, with its sizes. It never changes."""

    def __init__(self, kind, sizes, content):
        super().__init__(content)
        self._kind = kind
        self._width, self._height, self._depth = sizes
        self._content = content

    @property
    def kind(self):
        """`"row"` or `"column"`."""
        return self._kind

    @property
    def width(self):
        """The width."""
        return self._width

    @property
    def height(self):
        """The height above the line."""
        return self._height

    @property
    def depth(self):
        """The depth below the line."""
        return self._depth

    @property
    def content(self):
        """The tuple of the items."""
        return self._content
