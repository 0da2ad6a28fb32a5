import unittest

from talkleast.apart import apart, keep_apart
from talkleast.blocks import is_block
from talkleast.covers import fewest_cover
from talkleast.errors import TooGreat
from talkleast.least import fewest_ends
from talkleast.named import alike, less, sums
from talkleast.tables import flipped, words_in
from tests.helper import entries_of, great_tables, grown, small_tables

TABLE = ((0, 0, 1), (0, 1, 0))


def spanned(one, other):
    return 2 ** one[0] | 2 ** other[0], 2 ** one[1] | 2 ** other[1]


def apart_after_the_words(table, one, other):
    """Different entries with the same word, and no block, not even the least that has both."""
    rows, columns = spanned(one, other)
    return one != other and table[one[0]][one[1]] == table[other[0]][other[1]] and not is_block(table, rows, columns)


def most(table, entries):
    """How many of the entries keep apart, each two of them."""
    best = 0
    for place, entry in enumerate(entries):
        rest = [later for later in entries[place + 1:] if apart_after_the_words(table, entry, later)]
        if len(rest) + 1 > best:
            best = max(best, 1 + most(table, rest))
    return best


class KeepApart(unittest.TestCase):
    def test_by_hand(self):
        self.assertIs(keep_apart(TABLE, (0, 1), (1, 2)), True)
        self.assertIs(keep_apart(TABLE, (1, 2), (0, 1)), True)
        self.assertIs(keep_apart(TABLE, (0, 2), (1, 1)), True)
        self.assertIs(keep_apart(alike(2), (0, 0), (1, 1)), True)
        self.assertIs(keep_apart(((0, 0), (1, 0)), (0, 0), (1, 1)), True)
        self.assertIs(keep_apart(((0, 1), (0, 0)), (0, 0), (1, 1)), True)
        self.assertIs(keep_apart(((0, 0), (0, 0)), (0, 0), (1, 1)), False)

    def test_in_one_row_or_column(self):
        self.assertIs(keep_apart(TABLE, (0, 0), (0, 1)), False)
        self.assertIs(keep_apart(TABLE, (0, 0), (1, 0)), False)

    def test_the_same_entry(self):
        for row in range(2):
            for column in range(3):
                self.assertIs(keep_apart(TABLE, (row, column), (row, column)), False)

    def test_different_words(self):
        self.assertIs(keep_apart(TABLE, (0, 0), (1, 1)), False)
        self.assertIs(keep_apart(TABLE, (1, 1), (0, 0)), False)
        self.assertIs(keep_apart(((0, 1), (2, 3)), (0, 0), (1, 1)), False)
        self.assertIs(keep_apart(TABLE, (0, 1), (0, 2)), False)
        self.assertIs(keep_apart(TABLE, (0, 1), (1, 1)), False)

    def test_each_two_entries_of_any_table(self):
        for table in (TABLE, alike(8), less(8, 6), sums(7, 8, 3), ((0, 1, 0), (2, 0, 0), (0, 0, 1))):
            entries = [(row, column) for row in range(len(table)) for column in range(len(table[0]))]
            for one in entries:
                for other in entries:
                    self.assertIs(keep_apart(table, one, other), apart_after_the_words(table, one, other))


class Apart(unittest.TestCase):
    def test_how_many_by_hand(self):
        for table, word, count in (
            (((4,),), 4, 1), (((4,) * 8,) * 8, 4, 1), (alike(2), 0, 2), (alike(3), 1, 3), (alike(3), 0, 3), (alike(4), 0, 3),
            (alike(5), 1, 5), (less(5, 5), 1, 4), (less(5, 5), 0, 5), (((0, 0), (0, 1)), 0, 2), (sums(8, 8), 1, 2),
            (((0, 0), (0, 1)), 1, 1), (sums(5, 5, 5), 3, 5),
        ):
            with self.subTest(table=table, word=word):
                self.assertEqual(len(apart(table, word)), count)

    def test_sorted_pairs_that_keep_apart(self):
        for table in small_tables():
            for word in words_in(table):
                with self.subTest(table=table, word=word):
                    found = apart(table, word)
                    self.assertIs(type(found), list)
                    self.assertEqual(found, sorted(set(found)))
                    for pair in found:
                        self.assertIs(type(pair), tuple)
                        self.assertIn(pair, entries_of(table, word))
                    for place, one in enumerate(found):
                        for other in found[place + 1:]:
                            self.assertIs(apart_after_the_words(table, one, other), True)
                    self.assertEqual(apart(table, word), found)

    def test_as_many_as_possible(self):
        for table in small_tables():
            for word in words_in(table):
                with self.subTest(table=table, word=word):
                    self.assertEqual(len(apart(table, word)), most(table, sorted(entries_of(table, word))))

    def test_never_more_than_blocks_that_cover_or_outcomes(self):
        for table in small_tables():
            counts = [len(apart(table, word)) for word in words_in(table)]
            blocks = [len(fewest_cover(table, word)) for word in words_in(table)]
            self.assertTrue(all(count <= block for count, block in zip(counts, blocks)))
            self.assertLessEqual(sum(counts), fewest_ends(table))

    def test_indexes_are_those_of_the_table_itself(self):
        table = grown(alike(2), (0, 0, 1, 1), (0, 0, 0, 1))
        found = apart(table, 1)
        self.assertEqual(len(found), 2)
        self.assertIn(found[0], [(row, column) for row in (0, 1) for column in (0, 1, 2)])
        self.assertIn(found[1], [(2, 3), (3, 3)])

    def test_a_word_that_no_entry_has(self):
        for table in (((0,),), alike(5), less(8, 5), ((6,) * 8,) * 8):
            for word in (2, 9):
                first = apart(table, word)
                self.assertEqual(first, [])
                first.append("changed")
                self.assertEqual(apart(table, word), [])

    def test_each_call_has_a_list_of_its_own(self):
        first = apart(alike(3), 1)
        first.append("changed")
        self.assertEqual(apart(alike(3), 1), [(0, 0), (1, 1), (2, 2)])

    def test_sides_exchanged(self):
        for table in small_tables():
            for word in words_in(table):
                self.assertEqual(len(apart(flipped(table), word)), len(apart(table, word)))

    def test_too_great_whatever_the_word(self):
        for table in great_tables():
            for word in range(10):
                with self.subTest(table=table, word=word):
                    self.assertRaises(TooGreat, apart, table, word)


if __name__ == "__main__":
    unittest.main()
