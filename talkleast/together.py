"""Two tables put together by a rule."""

from talkleast.errors import NoWord, TooGreat
from talkleast.named import ruled
from talkleast.tables import MOST_LINES, words_in

# Parity takes all words.
GREATEST_WORDS = {"pair": 2, "times": 3}


def together(one, other, rule):
    tall = len(other)
    wide = len(other[0])
    height = len(one) * tall
    width = len(one[0]) * wide
    if height > MOST_LINES or width > MOST_LINES:
        raise TooGreat("there would be more than 8 rows or columns")
    if rule in GREATEST_WORDS and max(words_in(one) + words_in(other)) > GREATEST_WORDS[rule]:
        raise NoWord("a word is beyond those that the rule takes")
    return ruled(height, width, lambda r, c: joined_word(rule, one[r // tall][c // wide], other[r % tall][c % wide]))


def joined_word(rule, a, b):
    if rule == "pair":
        return 3 * a + b
    if rule == "times":
        return a * b
    return (a + b) % 2
