"""Blocks: parts of a table whose entries are all one word."""

from talkleast.tables import cards_in, cut, words_in


def is_block(table, rows, columns):
    return len(words_in(cut(table, rows, columns))) == 1


# A widest block is told by its rows: its columns are all those where these rows have the word.
def widest(table, word):
    found = []
    for rows in range(1, 1 << len(table)):
        columns = columns_with(table, rows, word)
        if columns != 0 and rows_with(table, columns, word) == rows:
            found.append((rows, columns))
    return found


def columns_with(table, rows, word):
    inside = cards_in(rows)
    return sum([1 << column for column in range(len(table[0])) if all([table[row][column] == word for row in inside])])


def rows_with(table, columns, word):
    inside = cards_in(columns)
    return sum([1 << row for row in range(len(table)) if all([table[row][column] == word for column in inside])])
