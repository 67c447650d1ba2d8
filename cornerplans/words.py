"""Words: which rows of a price list they put ahead of others, one word after the other."""

from cornerplans.errors import BadWords
from cornerplans.forms import is_list

AKIN = {
    "cheapest": "dearest",
    "dearest": "cheapest",
    "highest": "lowest",
    "lowest": "highest",
    "narrowest": "widest",
    "newest": "oldest",
    "oldest": "newest",
    "widest": "narrowest",
}
# Behind one of these all rows that are left have one price, so that no further word changes what is told.
LAST_WORDS = ("cheapest", "dearest", "newest", "oldest")


class Words:
    """Different words, in their order."""

    def __init__(self, words=()):
        if not is_list(words):
            raise BadWords("this is no list of words")
        for at, word in enumerate(words):
            if not _is_word(word) or word in words[:at]:
                raise BadWords("this is no list of different words")
        self._words = tuple(words)

    @property
    def words(self):
        """The words, in their order."""
        return self._words

    @property
    def live(self):
        """The words that can change what is told, in their order."""
        return tuple([word for at, word in enumerate(self._words) if _is_live(word, self._words[:at])])

    def __eq__(self, other):
        return isinstance(other, Words) and self._words == other._words


def alike_words(one, other):
    """Whether both tell the same of all lists, works and days."""
    if not isinstance(one, Words) or not isinstance(other, Words):
        raise BadWords("these are no Words")
    return one.live == other.live


def all_words():
    """All Words that have only live words, shorter first, then ascending."""
    told, longest = [], [()]
    while longest:
        told.extend([Words(words) for words in longest])
        longest = sorted([(*words, word) for words in longest for word in AKIN if _is_live(word, words)])
    return told


def _is_word(thing):
    return isinstance(thing, str) and thing in AKIN


def _is_live(word, ahead):
    return not any([other in LAST_WORDS or other in (word, AKIN[word]) for other in ahead])
