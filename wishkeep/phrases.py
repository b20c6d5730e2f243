"""Wishes read word by word."""

from wishkeep.names import is_name
from wishkeep.wishes import WISHES_BEHIND
from wishkeep.words import CLOSE, CLOSEST, LEAST_CLOSE

WHOLE = ("yes", "no")
AHEAD_OF_ONE = ("not", "before", "was")


class Phrase:
    """A wish, as far as its words were taken.

    What waits stands in lists, and nothing calls itself: brackets may stand thousands deep.
    """

    def __init__(self, names):
        # None as names lets each name by.
        self.names = names
        self.wishes = []
        self.waiting = []
        self.brackets = 0
        self.lacks_wish = True

    def is_sign(self, word):
        """Whether a word is a sign's name here."""
        return is_name(word) and (self.names is None or word in self.names)

    def fits(self, word):
        """Whether a word can stand behind those that were taken."""
        if self.lacks_wish:
            return word == "(" or word in WHOLE or word in AHEAD_OF_ONE or self.is_sign(word)
        if word == ")":
            return self.brackets > 0
        if word == "since":
            # A since that waits has its second side whole by now, and that would be this one's first side.
            return self.waiting[-1:] != ["since"]
        return word == "and" or word == "or"

    def take(self, word):
        """Takes the next word, one that fits."""
        if not self.lacks_wish:
            self.take_behind_wish(word)
        elif word == "(":
            self.waiting.append(word)
            self.brackets += 1
        elif word in AHEAD_OF_ONE:
            self.waiting.append(word)
        else:
            self.wishes.append((word,) if word in WHOLE else ("sign", word))
            self.end_wish()

    def take_behind_wish(self, word):
        """Takes a word that stands behind a whole wish."""
        if word == ")":
            self.settle(LEAST_CLOSE)
            self.waiting.pop()
            self.brackets -= 1
            self.end_wish()
        else:
            self.settle(CLOSE[word])
            self.waiting.append(word)
            self.lacks_wish = True

    def end_wish(self):
        """A wish has come to its end: the words right ahead of it have what they wait for."""
        self.lacks_wish = False
        self.settle(CLOSEST)

    def settle(self, least):
        """The last words that wait, up to a bracket, and bind so close or closer have what they wait for."""
        while len(self.waiting) > 0 and self.waiting[-1] != "(" and CLOSE[self.waiting[-1]] >= least:
            word = self.waiting.pop()
            begin = len(self.wishes) - WISHES_BEHIND[word]
            wish = (word,) + tuple(self.wishes[begin:])
            del self.wishes[begin:]
            self.wishes.append(wish)

    def is_whole(self):
        """Whether the words that were taken are a wish's text."""
        return not self.lacks_wish and self.brackets == 0

    def whole(self):
        """The wish of a whole text, whatever its size."""
        self.settle(LEAST_CLOSE)
        return self.wishes[0]
