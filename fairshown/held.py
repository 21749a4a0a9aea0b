"""What a with block holds, to go back to when it is left."""


class Held:
    """A moment to go back to, and what was held before it."""

    def __init__(self, moment, before):
        self.moment = moment
        self.before = before
