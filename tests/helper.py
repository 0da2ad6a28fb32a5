"""What several test files need."""

# Things that are no int, whatever int is asked for; True would do as 1.
NO_INTS = (True, False, None, "", "1", [], [1], (1,), {}, {1: 1}, {1}, 1.0, 2.5, 1j, b"1", object(), int, len)

# Things that are no card of any table, whatever its size: negative, too great, or no ints.
NO_CARDS = NO_INTS + (-1, -2, -8, 8, 9, 255, 10 ** 40, -10 ** 40)


def scrambled(rows, columns, words, seed):
    """A table of words below a number, scattered without a rule that shows."""
    state = seed * 7919 + rows * 31 + columns
    table = []
    for r in range(rows):
        row = []
        for c in range(columns):
            state = (state * 1103515245 + 12345) % 2 ** 31
            row.append((state >> 12) % words)
        table.append(tuple(row))
    return tuple(table)


def of_kinds(rows, columns, words, count):
    """So many scrambled tables in which all rows are of different kinds, and all columns."""
    found = []
    seed = 0
    while len(found) < count:
        table = scrambled(rows, columns, words, seed)
        if len(set(table)) == rows and len(set(zip(*table))) == columns:
            found.append(table)
        seed += 1
    return found


def grown(table, rows, columns):
    """The table with its rows and columns told by their indexes, some of them more than once."""
    return tuple(tuple(table[r][c] for c in columns) for r in rows)


def greatest_small(words, count):
    """Eight rows and eight columns, five kinds of either."""
    rows = (0, 1, 0, 2, 3, 1, 4, 4)
    columns = (0, 0, 1, 2, 2, 3, 2, 4)
    return [grown(table, rows, columns) for table in of_kinds(5, 5, words, count)]


def cards_of(cards):
    """The cards in a set, told without the package's help."""
    return [card for card in range(12) if cards // 2 ** card % 2]


def chain(asks, side="row", yes=True):
    """So many asks, each one within the one before."""
    plan = ("end", 9)
    for number in range(asks):
        plan = ("ask", side, 1 + number % 255, ("end", 0), plan) if yes else \
            ("ask", side, 1 + number % 255, plan, ("end", 0))
    return plan


def bushy(asks):
    """So many asks in all, as few as can be one within another."""
    if asks == 0:
        return ("end", 3)
    no = (asks - 1) // 2
    return ("ask", "row" if asks % 2 else "column", 1 + asks % 255, bushy(no), bushy(asks - 1 - no))


class Table:
    """Checks that a value is a table to the letter: tuples of plain ints."""

    def assert_table(self, found, wanted):
        self.assertEqual(found, wanted)
        self.assertIs(type(found), tuple)
        for row in found:
            self.assertIs(type(row), tuple)
            for word in row:
                self.assertIs(type(word), int)

    def assert_new_lists(self, function, table, wanted):
        """Each call answers an equal list of plain ints, and a list of its own."""
        first = function(table)
        self.assertEqual(first, wanted)
        self.assertIs(type(first), list)
        for number in first:
            self.assertIs(type(number), int)
        first.append("changed")
        second = function(table)
        self.assertEqual(second, wanted)
        self.assertIsNot(first, second)
