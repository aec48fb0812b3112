"""Stories: rows in the order in which they happened."""


class Story:
    """Rows that are only ever added to; it is doubled at no cost, however long it is."""

    def __init__(self):
        # Shared with those that were doubled from it; its own are the first ones of them, so many.
        self.shared = []
        self.length = 0

    def doubled(self):
        """Tell a story just like this one, which goes on by itself."""
        other = Story()
        other.shared = self.shared
        other.length = self.length
        return other

    def write(self, row):
        """Add a row."""
        if len(self.shared) > self.length:
            # Another one has gone on from here.
            self.shared = self.shared[:self.length]
        self.shared.append(row)
        self.length += 1

    def listed(self):
        """List the rows."""
        return self.shared[:self.length]
