"""What items have to know of boxes, which hold items themselves."""


def held_frames(content):
    """The list of the boxes that some items hold directly, also as notes."""
    return [item[1] for item in content if item[0] in ("box", "note")]


class Frame:
    """A box, as far as items look at it: all boxes are frames, and nothing else is one."""

    def __init__(self, content):
        frames = held_frames(content)
        # How many boxes and notes stand in one another at most, itself counted.
        self.nesting = 1 + max([frame.nesting for frame in frames], default=0)
        # How many items are in it, with those in boxes and notes, each as often as it stands there.
        self.many_items = len(content) + sum([frame.many_items for frame in frames])
