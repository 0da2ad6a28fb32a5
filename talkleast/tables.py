"""Tables of words, sets of cards, and the kinds of rows and columns."""

from talkleast.checks import is_int
from talkleast.errors import NoCard, NoTable, TooGreat

MOST_LINES = 8
GREATEST_WORD = 9
SMALL_LINES = 5


def made_table(rows):
    if not is_line(rows) or not all([is_row(row) for row in rows]):
        raise NoTable("a table is 1 to 8 rows of 1 to 8 words, ints from 0 to 9")
    if any([len(row) != len(rows[0]) for row in rows]):
        raise NoTable("the rows of a table are of one length")
    return tuple([tuple(row) for row in rows])


def is_line(thing):
    return isinstance(thing, (list, tuple)) and 1 <= len(thing) <= MOST_LINES


def is_row(thing):
    return is_line(thing) and all([is_int(word, 0, GREATEST_WORD) for word in thing])


def flipped(table):
    return tuple([tuple([row[column] for row in table]) for column in range(len(table[0]))])


def cut(table, rows, columns):
    check_cards(rows, len(table))
    check_cards(columns, len(table[0]))
    return crossing(table, cards_in(rows), cards_in(columns))


def check_cards(cards, size):
    if not is_int(cards, 1, (1 << size) - 1):
        raise NoCard("a set of cards is an int from 1 on with cards of the table alone")


def check_card(card, size):
    if not is_int(card, 0, size - 1):
        raise NoCard("a card is an int from 0 on, less than the number of its side's cards")


def cards_in(cards):
    return [card for card in range(cards.bit_length()) if (cards >> card) & 1]


def crossing(table, rows, columns):
    return tuple([tuple([table[row][column] for column in columns]) for row in rows])


def row_kinds(table):
    return [table.index(row) for row in table]


def column_kinds(table):
    return row_kinds(flipped(table))


def trimmed(table):
    return crossing(table, sorted(set(row_kinds(table))), sorted(set(column_kinds(table))))


def is_small(table):
    rest = trimmed(table)
    return len(rest) <= SMALL_LINES and len(rest[0]) <= SMALL_LINES


def check_small(table):
    if not is_small(table):
        raise TooGreat("the table has more than five kinds of rows or of columns")


def words_in(table):
    words = []
    for row in table:
        words.extend(row)
    return sorted(set(words))
