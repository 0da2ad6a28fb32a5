import unittest

from talkleast.blocks import is_block, widest
from talkleast.errors import NoCard
from talkleast.named import alike, less, shared, sums
from talkleast.tables import flipped
from tests.helper import NO_INTS, cards_of, greatest_small, grown, of_kinds, scrambled

TABLE = ((0, 0, 1), (0, 0, 2))


def words_of(table, rows, columns):
    return {table[row][column] for row in cards_of(rows) for column in cards_of(columns)}


def widest_after_the_words(table, word):
    """All blocks of the word to which no row and no column can be added."""
    all_rows = range(1, 2 ** len(table))
    all_columns = range(1, 2 ** len(table[0]))
    blocks = {(rows, columns) for rows in all_rows for columns in all_columns if words_of(table, rows, columns) == {word}}
    found = []
    for rows, columns in blocks:
        wider = [(rows | 2 ** row, columns) for row in range(len(table)) if not rows >> row & 1]
        wider += [(rows, columns | 2 ** column) for column in range(len(table[0])) if not columns >> column & 1]
        if not any(block in blocks for block in wider):
            found.append((rows, columns))
    return sorted(found)


class IsBlock(unittest.TestCase):
    def test_one_word_and_several(self):
        self.assertIs(is_block(TABLE, 3, 3), True)
        self.assertIs(is_block(TABLE, 1, 4), True)
        self.assertIs(is_block(TABLE, 2, 4), True)
        self.assertIs(is_block(TABLE, 3, 4), False)
        self.assertIs(is_block(TABLE, 1, 7), False)
        self.assertIs(is_block(TABLE, 2, 5), False)
        self.assertIs(is_block(TABLE, 3, 7), False)
        self.assertIs(is_block(((7,) * 8,) * 8, 255, 255), True)
        self.assertIs(is_block(((7,) * 8,) * 7 + ((7,) * 7 + (6,),), 255, 255), False)
        self.assertIs(is_block(((7,) * 8,) * 7 + ((7,) * 7 + (6,),), 127, 255), True)
        self.assertIs(is_block(((7,),), 1, 1), True)

    def test_each_pair_of_sets(self):
        for table in (TABLE, alike(3), scrambled(3, 4, 2, 5), scrambled(4, 2, 3, 6)):
            for rows in range(1, 2 ** len(table)):
                for columns in range(1, 2 ** len(table[0])):
                    self.assertIs(is_block(table, rows, columns), len(words_of(table, rows, columns)) == 1)

    def test_no_card(self):
        for wrong in NO_INTS + (0, -1, -2, -8, 8, 9, 15, 256, 10 ** 40, -10 ** 40):
            with self.subTest(wrong=wrong):
                self.assertRaises(NoCard, is_block, TABLE, wrong, 1)
                self.assertRaises(NoCard, is_block, TABLE, 1, wrong)
                self.assertRaises(NoCard, is_block, TABLE, wrong, wrong)

    def test_each_set_is_held_to_its_own_side(self):
        self.assertRaises(NoCard, is_block, TABLE, 4, 1)
        self.assertRaises(NoCard, is_block, TABLE, 5, 7)
        self.assertRaises(NoCard, is_block, flipped(TABLE), 1, 4)
        self.assertIs(is_block(flipped(TABLE), 4, 1), True)
        self.assertRaises(NoCard, is_block, sums(8, 8), 256, 1)
        self.assertRaises(NoCard, is_block, sums(8, 8), 1, 256)


class Widest(unittest.TestCase):
    def assert_widest(self, table, word, wanted):
        found = widest(table, word)
        self.assertEqual(found, wanted)
        self.assertIs(type(found), list)
        for block in found:
            self.assertIs(type(block), tuple)
            for number in block:
                self.assertIs(type(number), int)
        found.append("changed")
        self.assertEqual(widest(table, word), wanted)

    def test_reckoned_by_hand(self):
        self.assert_widest(TABLE, 0, [(3, 3)])
        self.assert_widest(TABLE, 1, [(1, 4)])
        self.assert_widest(TABLE, 2, [(2, 4)])
        self.assert_widest(TABLE, 3, [])
        self.assert_widest(alike(3), 1, [(1, 1), (2, 2), (4, 4)])
        self.assert_widest(alike(3), 0, [(1, 6), (2, 5), (3, 4), (4, 3), (5, 2), (6, 1)])
        self.assert_widest(less(3, 3), 1, [(1, 6), (3, 4)])
        self.assert_widest(less(3, 3), 0, [(4, 7), (6, 3), (7, 1)])

    def test_a_word_that_no_entry_has(self):
        for table in (TABLE, alike(8), ((0,),), sums(8, 8, 9)):
            self.assert_widest(table, 9, [])

    def test_one_word(self):
        for word in range(10):
            self.assert_widest(((word,),), word, [(1, 1)])
            self.assert_widest(((word,) * 8,) * 8, word, [(255, 255)])
            self.assert_widest(((word,) * 5,) * 3, word, [(7, 31)])
            self.assert_widest(((word,) * 5,) * 3, (word + 1) % 10, [])

    def test_equal_rows_and_columns_of_the_table_itself(self):
        self.assert_widest(grown(alike(2), (0, 1, 0), (1, 1, 0)), 1, [(2, 3), (5, 4)])
        self.assert_widest(grown(alike(2), (0, 1, 0), (1, 1, 0)), 0, [(2, 4), (5, 3)])

    def test_after_the_words_of_the_document(self):
        tables = [scrambled(rows, columns, words, seed) for rows in range(1, 5) for columns in range(1, 5)
                  for words in (2, 3) for seed in (1, 2)]
        tables += [grown(scrambled(3, 3, 2, seed), (0, 1, 1, 2, 0), (0, 2, 1, 2)) for seed in range(5)]
        tables += [shared(2), sums(4, 5, 3), less(5, 4)] + of_kinds(5, 5, 2, 2)
        for table in tables:
            for word in (0, 1, 2):
                with self.subTest(table=table, word=word):
                    self.assert_widest(table, word, widest_after_the_words(table, word))

    def test_eight_rows_and_columns(self):
        self.assert_widest(alike(8), 1, [(2 ** card, 2 ** card) for card in range(8)])
        self.assert_widest(alike(8), 0, [(cards, 255 - cards) for cards in range(1, 255)])
        self.assert_widest(sums(8, 8), 0, [(85, 85), (170, 170)])
        self.assert_widest(sums(8, 8), 1, [(85, 170), (170, 85)])
        for table in greatest_small(2, 1) + of_kinds(8, 8, 3, 1):
            self.assert_widest(table, 1, widest_after_the_words(table, 1))

    def test_sides_exchanged(self):
        for table in of_kinds(8, 7, 2, 2) + greatest_small(3, 2):
            for word in (0, 1):
                turned = sorted([(rows, columns) for columns, rows in widest(flipped(table), word)])
                self.assert_widest(table, word, turned)


if __name__ == "__main__":
    unittest.main()
