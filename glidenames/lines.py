"""The lines of a text that is read, one after the other."""

from glidenames.errors import BadText


class Lines:
    """The lines of a text, each ended by a line feed; at tells how many have been taken."""

    def __init__(self, text):
        # Behind the last line feed stands "", or a line that is not ended.
        self.rows = text.split("\n")
        self.at = 0

    def is_left(self):
        """Whether anything is left, be it a line that is not ended."""
        return self.at < len(self.rows) - 1 or self.rows[-1] != ""

    def take(self):
        """The next line; BadText if it is wanting or not ended."""
        self.at += 1
        if self.at >= len(self.rows):
            raise BadText(self.at)
        return self.rows[self.at - 1]

    def check(self, fits):
        """Raises BadText of the line taken last unless it fits."""
        if not fits:
            raise BadText(self.at)

    def check_end(self):
        """Raises BadText of the next line if there is one."""
        if self.is_left():
            raise BadText(self.at + 1)
