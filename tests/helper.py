"""What several test files need."""

import itertools

from talkleast.named import alike, less, pick, shared, sums
from talkleast.tables import flipped

# Things that are no int, whatever int is asked for; True would do as 1.
NO_INTS = (True, False, None, "", "1", [], [1], (1,), {}, {1: 1}, {1}, 1.0, 2.5, 1j, b"1", object(), int, len)

# Things that are no card of any table, whatever its size: negative, too great, or no ints.
NO_CARDS = NO_INTS + (-1, -2, -8, 8, 9, 255, 10 ** 40, -10 ** 40)


def scrambled(rows, columns, words, seed):
    """A table of words below a number, scattered without a rule that shows."""
    state = seed * 7919 + rows * 31 + columns
    table = []
    for r in range(rows):
        row = []
        for c in range(columns):
            state = (state * 1103515245 + 12345) % 2 ** 31
            row.append((state >> 12) % words)
        table.append(tuple(row))
    return tuple(table)


def of_kinds(rows, columns, words, count):
    """So many scrambled tables in which all rows are of different kinds, and all columns."""
    found = []
    seed = 0
    while len(found) < count:
        table = scrambled(rows, columns, words, seed)
        if len(set(table)) == rows and len(set(zip(*table))) == columns:
            found.append(table)
        seed += 1
    return found


def grown(table, rows, columns):
    """The table with its rows and columns told by their indexes, some of them more than once."""
    return tuple(tuple(table[r][c] for c in columns) for r in rows)


def greatest_small(words, count):
    """Eight rows and eight columns, five kinds of either."""
    rows = (0, 1, 0, 2, 3, 1, 4, 4)
    columns = (0, 0, 1, 2, 2, 3, 2, 4)
    return [grown(table, rows, columns) for table in of_kinds(5, 5, words, count)]


def cards_of(cards):
    """The cards in a set, told without the package's help."""
    return [card for card in range(12) if cards // 2 ** card % 2]


def entries_of(table, word):
    return {(row, column) for row, words in enumerate(table) for column in range(len(words)) if words[column] == word}


def within(block):
    """The entries that a block contains."""
    return {(row, column) for row in cards_of(block[0]) for column in cards_of(block[1])}


def small_tables():
    """Small tables of all sizes, the greatest among them."""
    found = [alike(n) for n in range(1, 6)] + [less(5, 5), less(8, 5), shared(1), shared(2), pick(2), sums(8, 8, 5)]
    found += [scrambled(rows, columns, words, seed) for rows in range(1, 6) for columns in range(1, 6)
              for words in (2, 3) for seed in (3, 4)]
    found += [grown(scrambled(3, 4, 2, seed), (0, 1, 1, 2, 0, 2, 1, 0), (3, 0, 0, 1, 2, 2, 1)) for seed in range(5)]
    found += [grown(alike(5), (0, 1, 0, 2, 3, 1, 4, 4), (0, 0, 1, 2, 2, 3, 2, 4)), ((6,) * 8,) * 8]
    return found + greatest_small(2, 10) + greatest_small(4, 5) + greatest_small(10, 2)


def great_tables():
    """Tables with six kinds of rows or of columns, or with more."""
    six = of_kinds(6, 5, 3, 1)[0]
    return (six, flipped(six), alike(6), alike(8), pick(3), shared(3), ((0, 1, 2, 3, 4, 5),), six + six[4:],
            grown(six, range(6), (0, 1, 2, 3, 4, 4, 0, 0)), flipped(six + six[:2]), of_kinds(8, 8, 2, 1)[0])


def halves():
    """All ways to cut the nine entries of a table of three rows and columns, as ints with a bit for each entry."""
    rows = [sum(7 << 3 * row for row in some) for size in (1, 2) for some in itertools.combinations(range(3), size)]
    columns = [sum(73 << column for column in some) for size in (1, 2) for some in itertools.combinations(range(3), size)]
    return rows + columns


def reached_by_bits(most):
    """For each number of bits the tables, of three rows and columns and the words 0 and 1, that some plan settles."""
    levels = [{0, 511}]
    for bits in range(most):
        found = set(levels[-1])
        for half in halves():
            for one in {table & half for table in levels[-1]}:
                found.update(one | other for other in {table & ~half & 511 for table in levels[-1]})
        levels.append(found)
    return levels


def table_of(number):
    """The table of three rows and columns that is told by an int with a bit for each entry."""
    return tuple(tuple(number >> 3 * row + column & 1 for column in range(3)) for row in range(3))


def lists_split(cards):
    """All pairs of lists, neither empty, that together have the cards."""
    ways = []
    for mask in range(1, 2 ** len(cards) - 1):
        inside = [card for place, card in enumerate(cards) if mask >> place & 1]
        ways.append((inside, [card for card in cards if card not in inside]))
    return ways


def chain(asks, side="row", yes=True):
    """So many asks, each one within the one before."""
    plan = ("end", 9)
    for number in range(asks):
        plan = ("ask", side, 1 + number % 255, ("end", 0), plan) if yes else \
            ("ask", side, 1 + number % 255, plan, ("end", 0))
    return plan


def bushy(asks):
    """So many asks in all, as few as can be one within another."""
    if asks == 0:
        return ("end", 3)
    no = (asks - 1) // 2
    return ("ask", "row" if asks % 2 else "column", 1 + asks % 255, bushy(no), bushy(asks - 1 - no))


class Table:
    """Checks that a value is a table to the letter: tuples of plain ints."""

    def assert_table(self, found, wanted):
        self.assertEqual(found, wanted)
        self.assertIs(type(found), tuple)
        for row in found:
            self.assertIs(type(row), tuple)
            for word in row:
                self.assertIs(type(word), int)

    def assert_new_lists(self, function, table, wanted):
        """Each call answers an equal list of plain ints, and a list of its own."""
        first = function(table)
        self.assertEqual(first, wanted)
        self.assertIs(type(first), list)
        for number in first:
            self.assertIs(type(number), int)
        first.append("changed")
        second = function(table)
        self.assertEqual(second, wanted)
        self.assertIsNot(first, second)
