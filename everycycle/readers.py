"""One line of a text, read from the left, character by character.

Whatever is taken here is taken only as far as some right line may go on so; at the first character with which none
does, the error tells that place. So its column is the one that is promised, without any search.
"""

from everycycle.errors import BadLine

NAME_LENGTH = 12
WHOLE_LENGTH = 20
NO_NAMES = (
    "module", "input", "reg", "memory", "wire", "output", "use", "next", "write", "end", "by", "when", "if", "then",
    "else",
)


def is_letter(sign):
    """Whether a character, or "" behind the last one, is a letter of names."""
    return "a" <= sign <= "z"


def is_digit(sign):
    """Whether a character, or "" behind the last one, is a digit."""
    return "0" <= sign <= "9"


def is_inner(sign):
    """Whether a character may stand within a name."""
    return is_letter(sign) or is_digit(sign) or sign == "_"


class Reader:
    """A line, its number in the text, and the place up to which it has been read."""

    def __init__(self, line, number):
        self.line = line
        self.number = number
        self.place = 0

    def wrong(self):
        """Tells that no right line goes on so from this place."""
        raise BadLine(self.number, self.place + 1)

    def look(self, ahead=0):
        """The character here, or so many further on; "" behind the last one."""
        at = self.place + ahead
        return self.line[at:at + 1]

    def skip(self):
        """Goes over spaces and tells the character behind them."""
        while self.look() == " ":
            self.place += 1
        return self.look()

    def begin_word(self):
        """Goes to where a word, name or whole begins, which must not touch another one ahead of it."""
        self.skip()
        if self.place > 0 and is_inner(self.line[self.place - 1]):
            self.wrong()

    def take_sign(self, sign):
        """Goes over a sign of one character."""
        if self.skip() != sign:
            self.wrong()
        self.place += 1

    def take_word(self, words):
        """Goes over one of these words, none of which begins another one, and tells it."""
        self.begin_word()
        found = ""
        while found not in words:
            sign = self.look()
            if sign == "" or not any([word.startswith(found + sign) for word in words]):
                self.wrong()
            found = found + sign
            self.place += 1
        return found

    def take_letters(self):
        """Goes over what is formed like a name, be it a name or a word that is none."""
        self.begin_word()
        start = self.place
        if not is_letter(self.look()):
            self.wrong()
        while is_inner(self.look()) and self.place - start < NAME_LENGTH:
            self.place += 1
        return self.line[start:self.place]

    def sure_name(self, word):
        """Tells the letters just taken, which must be a name."""
        if word in NO_NAMES:
            # Only here, behind its end: with more letters it could have become a name.
            self.wrong()
        return word

    def take_name(self):
        """Goes over a name and tells it."""
        return self.sure_name(self.take_letters())

    def take_digits(self):
        """Goes over a whole that begins just here and tells its value."""
        start = self.place
        if not is_digit(self.look()):
            self.wrong()
        self.place += 1
        if self.line[start] != "0":
            while is_digit(self.look()) and self.place - start < WHOLE_LENGTH:
                self.place += 1
        return int(self.line[start:self.place])

    def take_whole(self):
        """Goes over spaces and a whole and tells its value."""
        self.begin_word()
        return self.take_digits()

    def take_number(self):
        """Goes over a number, which has no spaces within, and tells its expression."""
        width = self.take_whole()
        if self.look() != "#":
            self.wrong()
        self.place += 1
        return ("number", width, self.take_digits())

    def take_end(self):
        """Goes over the spaces at the end of the line."""
        if self.skip() != "":
            self.wrong()
