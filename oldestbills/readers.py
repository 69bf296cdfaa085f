"""Words of a text, taken from the left to the right, and the bounds of what may be written."""

from oldestbills.errors import InvalidWords

# Days have at most 7 digits, sums at most 31.
GREATEST_DAY = 9999999
LEAST_DAY = -9999999
GREATEST_SUM = 10 ** 31 - 1


class Reader:
    """The words of a text. InvalidWords tells the number of a word that cannot stand, or is missing."""

    def __init__(self, text):
        self.parts = text.split(" ")
        self.at = 0

    def is_done(self):
        """Whether all words were taken."""
        return self.at == len(self.parts)

    def is_next(self, word):
        """Whether this word comes next."""
        return not self.is_done() and self.parts[self.at] == word

    def take_one_of(self, choices):
        """Takes the next word, which is one of these."""
        if self.is_done() or self.parts[self.at] not in choices:
            raise InvalidWords(self.at)
        return self.take()

    def take_integer(self, least, greatest):
        """Takes the next word, an integer between these, both included."""
        if self.is_done() or not is_integer_between(self.parts[self.at], least, greatest):
            raise InvalidWords(self.at)
        return int(self.take())

    def take_day(self):
        """Takes the next word, a day."""
        return self.take_integer(LEAST_DAY, GREATEST_DAY)

    def take_sum(self):
        """Takes the next word, a sum."""
        return self.take_integer(1, GREATEST_SUM)

    def take(self):
        """Takes the next word."""
        self.at = self.at + 1
        return self.parts[self.at - 1]

    def take_end(self):
        """InvalidWords unless all words were taken."""
        if not self.is_done():
            raise InvalidWords(self.at)


def is_integer_between(word, least, greatest):
    """Whether a word is an integer between these, as it is written."""
    # Words that are longer than a sum are beyond all bounds, and Python does not read very long ones.
    return is_written_integer(word) and len(word) <= 32 and least <= int(word) <= greatest


def is_written_integer(word):
    """Whether a word is an integer without leading zeros, with a sign only if it is below 0."""
    digits = word[1:] if word.startswith("-") else word
    if not digits.isdigit() or not digits.isascii():
        return False
    return word == "0" or digits[0] != "0"
