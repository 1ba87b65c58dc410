"""Trials: blocks in which a talk or a desk may be changed, and behind which it is as it was."""


class Trial:
    """A context manager for what has a stand, and the stands that can be taken back, so many in the past."""

    def __init__(self, held):
        self.held = held

    def __enter__(self):
        self.stand = self.held.stand
        self.many = self.held.many
        # A copy, since what is taken back in the block is lost in the list that is held.
        self.past = list(self.held.past)
        return self.held

    def __exit__(self, kind, value, trace):
        self.held.stand = self.stand
        self.held.many = self.many
        self.held.past = self.past
