"""Texts that are read line by line."""

from onesession.errors import InvalidText

DIGITS = "0123456789"
MOST_DIGITS = 4000


class Lines:
    """The lines of a text, and how many of them have been read.

    Whoever reads a text stops at the first line that cannot stand where it stands; at the end of
    the text this is the line behind the last one.
    """

    def __init__(self, text):
        if not isinstance(text, str):
            raise InvalidText(0)
        self.lines = text.split("\n")
        self.at = 0

    def following(self):
        """Return the next line, or None if there is none."""
        return self.lines[self.at] if self.at < len(self.lines) else None

    def parts(self):
        """Return the list of the items of the next line, which is empty if there is none."""
        line = self.following()
        return [] if line is None else line.split(" ")

    def begins_with(self, head):
        """Tell whether the next line has this first item."""
        return self.parts()[:1] == [head]

    def take(self, is_right):
        """Go on behind the next line, and raise InvalidText if it is wrong."""
        if not is_right:
            raise InvalidText(self.at)
        self.at += 1

    def take_line(self, line):
        """Go on behind the next line, which has to be this one."""
        self.take(self.following() == line)

    def take_end(self):
        """Raise InvalidText if there is another line."""
        if self.following() is not None:
            raise InvalidText(self.at)


def is_number(text):
    """Tell whether a text has the digits of an integer of at most 4000 digits, without a zero in front."""
    if not 1 <= len(text) <= MOST_DIGITS or (text[0] == "0" and text != "0"):
        return False
    return all([digit in DIGITS for digit in text])
