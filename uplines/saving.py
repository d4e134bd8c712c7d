"""What an object goes back to if an error leaves the block of a `with`."""


class Saved:
    """What an object was ahead of a block, and what it had saved ahead of that, as blocks may stand in blocks."""

    def __init__(self, past, outer):
        self.past = past
        self.outer = outer
