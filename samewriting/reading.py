"""Reading strings from their beginning on, as far as some text that is let begins so."""

from samewriting.errors import BadText


class Cursor:
    """A place in a string. What is read must go on with one of some words, none of which begins another one."""

    def __init__(self, letters):
        self.letters = letters
        self.at = 0

    def is_done(self):
        """Whether the end is reached."""
        return self.at == len(self.letters)

    def sees(self, some):
        """Whether one of these letters comes next."""
        return not self.is_done() and self.letters[self.at] in some

    def refuse(self):
        """Raise BadText: no text that is let goes on as this one does."""
        raise BadText(self.at)

    def take(self):
        """Read the next letter."""
        self.at += 1
        return self.letters[self.at - 1]

    def take_one_of(self, words):
        """Read one of the words, and tell its number; BadText behind the longest beginning of one of them."""
        longest = 0
        for number, word in enumerate(words):
            many = self._in_common(word)
            if many == len(word):
                self.at += many
                return number
            longest = max(longest, many)
        raise BadText(self.at + longest)

    def take_word(self, word):
        """Read this word."""
        self.take_one_of([word])

    def _in_common(self, word):
        """With how many letters of a word the string goes on."""
        many = 0
        for letter in word:
            if self.at + many == len(self.letters) or self.letters[self.at + many] != letter:
                return many
            many += 1
        return many
