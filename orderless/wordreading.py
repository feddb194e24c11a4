"""A reader that goes along the words of a line."""

from orderless.errors import InvalidText
from orderless.kinds import is_name

DIGITS = "0123456789"
MOST_DIGITS = 60


def is_integer_word(word):
    """Whether a word writes an integer with at most sixty digits."""
    digits = word[1:] if word.startswith("-") else word
    if word == "0":
        return True
    if not 1 <= len(digits) <= MOST_DIGITS or digits.startswith("0"):
        return False
    return all([digit in DIGITS for digit in digits])


class WordReader:
    """Takes the words of a text one by one; raises InvalidText at the first one that cannot stand at its place.

    line and field tell where the first word of the text stands.
    """

    def __init__(self, text, line, field):
        self.words = text.split(" ")
        self.line = line
        self.field = field
        self.at = 0

    def is_done(self):
        """Whether no word is left."""
        return self.at == len(self.words)

    def next_word(self):
        """The next word; an empty one, which never stands, if there is none."""
        return "" if self.is_done() else self.words[self.at]

    def take(self, can_stand):
        """Takes the next word if it can stand."""
        word = self.next_word()
        if not can_stand:
            raise InvalidText(self.line, self.field + self.at)
        self.at += 1
        return word

    def take_one_of(self, words):
        """Takes one of these words."""
        return self.take(self.next_word() in words)

    def take_name(self):
        """Takes a name."""
        return self.take(is_name(self.next_word()))

    def take_integer(self):
        """Takes the word of an integer, and returns the integer."""
        return int(self.take(is_integer_word(self.next_word())))

    def take_from(self, low):
        """Takes the word of an integer from low on, and returns the integer."""
        word = self.next_word()
        return int(self.take(is_integer_word(word) and int(word) >= low))

    def take_end(self):
        """Makes sure that no word is left."""
        if not self.is_done():
            raise InvalidText(self.line, self.field + self.at)
