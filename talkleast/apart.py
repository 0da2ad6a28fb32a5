"""Entries of one word that keep apart: no block contains two of them."""

from talkleast.tables import check_small, column_kinds, row_kinds


# Entries in rows of one kind and in columns of one kind never keep apart from one another, and all of them keep apart
# from the same others: so the first rows and columns of each kind suffice.
def apart(table, word):
    check_small(table)
    columns = sorted(set(column_kinds(table)))
    entries = []
    for row in sorted(set(row_kinds(table))):
        entries.extend([(row, column) for column in columns if table[row][column] == word])
    return most_apart(table, entries)


# Rising entries give a rising answer.
def most_apart(table, entries):
    if entries == []:
        return []
    first = entries[0]
    later = entries[1:]
    taken = [first] + most_apart(table, [entry for entry in later if keep_apart(table, first, entry)])
    passed = most_apart(table, later)
    return taken if len(taken) >= len(passed) else passed


# An entry does not keep apart from itself: the two others are that entry again.
def keep_apart(table, one, other):
    word = table[one[0]][one[1]]
    if table[other[0]][other[1]] != word:
        return False
    return table[one[0]][other[1]] != word or table[other[0]][one[1]] != word
