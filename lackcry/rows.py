"""Rows of a text, gone through one by one."""

from lackcry.errors import NoText


def rows_of(text):
    """The text's rows; what is no text is refused at row 0."""
    if not isinstance(text, str):
        raise NoText(0)
    return text.split("\n")


class Rows:
    """A text's rows; at is the number of the one that was read last."""

    def __init__(self, text):
        self.lines = rows_of(text)
        self.at = -1

    def is_more(self):
        """Whether there is a further row."""
        return self.at + 1 < len(self.lines)

    def begins(self, word):
        """Whether there is a further row, and this is its first word."""
        return self.is_more() and self.lines[self.at + 1].split(" ")[0] == word

    def behind(self, word):
        """Reads the next row; its words behind this first one."""
        self.at += 1
        if self.at == len(self.lines):
            raise NoText(self.at)
        words = self.lines[self.at].split(" ")
        self.refuse_unless(words[0] == word)
        return words[1:]

    def refuse_unless(self, right):
        """Nothing, but where the row that was read last isn't right."""
        if not right:
            raise NoText(self.at)

    def refuse_more(self):
        """Nothing, but where there is a further row."""
        if self.is_more():
            raise NoText(self.at + 1)
