"""What several test files need."""

# Things that are no int, whatever int is asked for; True would do as 1.
NO_INTS = (True, False, None, "", "1", [], [1], (1,), {}, {1: 1}, {1}, 1.0, 2.5, 1j, b"1", object(), int, len)


class Table:
    """Checks that a value is a table to the letter: tuples of plain ints."""

    def assert_table(self, found, wanted):
        self.assertEqual(found, wanted)
        self.assertIs(type(found), tuple)
        for row in found:
            self.assertIs(type(row), tuple)
            for word in row:
                self.assertIs(type(word), int)

    def assert_new_lists(self, function, table, wanted):
        """Each call answers an equal list of plain ints, and a list of its own."""
        first = function(table)
        self.assertEqual(first, wanted)
        self.assertIs(type(first), list)
        for number in first:
            self.assertIs(type(number), int)
        first.append("changed")
        second = function(table)
        self.assertEqual(second, wanted)
        self.assertIsNot(first, second)
