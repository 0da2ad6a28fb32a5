import unittest

from talkleast.errors import TooGreat
from talkleast.named import alike, less, pick, shared, sums
from talkleast.parts import bits_paper, ends_paper
from talkleast.tables import flipped
from tests.helper import cards_of, great_tables, greatest_small, grown, lists_split, of_kinds, scrambled

# Reckoned by hand.
CROSS = ((0, 1), (1, 0))
CROSS_BITS = [(1, 1, 0), (1, 2, 0), (1, 3, 1), (2, 1, 0), (2, 2, 0), (2, 3, 1), (3, 1, 1), (3, 2, 1), (3, 3, 2)]
CROSS_ENDS = [(1, 1, 1), (1, 2, 1), (1, 3, 2), (2, 1, 1), (2, 2, 1), (2, 3, 2), (3, 1, 2), (3, 2, 2), (3, 3, 4)]
CORNER = ((0, 0), (0, 1))
CORNER_BITS = [(1, 1, 0), (1, 2, 0), (1, 3, 0), (2, 1, 0), (2, 2, 0), (2, 3, 1), (3, 1, 0), (3, 2, 1), (3, 3, 2)]
CORNER_ENDS = [(1, 1, 1), (1, 2, 1), (1, 3, 1), (2, 1, 1), (2, 2, 1), (2, 3, 2), (3, 1, 1), (3, 2, 2), (3, 3, 3)]
STEPS = ((0, 1, 2), (0, 0, 1))
STEPS_BITS = [
    (1, 1, 0), (1, 2, 0), (1, 3, 1), (1, 4, 0), (1, 5, 1), (1, 6, 1), (1, 7, 2),
    (2, 1, 0), (2, 2, 0), (2, 3, 0), (2, 4, 0), (2, 5, 1), (2, 6, 1), (2, 7, 1),
    (3, 1, 0), (3, 2, 1), (3, 3, 2), (3, 4, 1), (3, 5, 2), (3, 6, 2), (3, 7, 3),
]
STEPS_ENDS = [
    (1, 1, 1), (1, 2, 1), (1, 3, 2), (1, 4, 1), (1, 5, 2), (1, 6, 2), (1, 7, 3),
    (2, 1, 1), (2, 2, 1), (2, 3, 1), (2, 4, 1), (2, 5, 2), (2, 6, 2), (2, 7, 2),
    (3, 1, 1), (3, 2, 2), (3, 3, 3), (3, 4, 2), (3, 5, 3), (3, 6, 4), (3, 7, 5),
]


def reckoned(table, ground, joined):
    """The paper of a table without equal rows or columns, after the words of [14] and [16]."""
    known = {}

    def number(rows, columns):
        key = (sum(2 ** row for row in rows), sum(2 ** column for column in columns))
        if key not in known:
            if len({table[row][column] for row in rows for column in columns}) == 1:
                known[key] = ground
            else:
                by_rows = [joined(number(one, columns), number(other, columns)) for one, other in lists_split(rows)]
                by_columns = [joined(number(rows, one), number(rows, other)) for one, other in lists_split(columns)]
                known[key] = min(by_rows + by_columns)
        return known[key]

    for rows in range(1, 2 ** len(table)):
        for columns in range(1, 2 ** len(table[0])):
            number(cards_of(rows), cards_of(columns))
    return sorted([(rows, columns, known[(rows, columns)]) for rows, columns in known])


def reckoned_bits(table):
    return reckoned(table, 0, lambda one, other: max(one, other) + 1)


def reckoned_ends(table):
    return reckoned(table, 1, lambda one, other: one + other)


class Papers(unittest.TestCase):
    def assert_papers(self, table, bits, ends):
        for function, wanted in ((bits_paper, bits), (ends_paper, ends)):
            found = function(table)
            self.assertEqual(found, wanted)
            self.assertIs(type(found), list)
            for triple in found:
                self.assertIs(type(triple), tuple)
                for number in triple:
                    self.assertIs(type(number), int)

    def test_reckoned_by_hand(self):
        self.assert_papers(CROSS, CROSS_BITS, CROSS_ENDS)
        self.assert_papers(CORNER, CORNER_BITS, CORNER_ENDS)
        self.assert_papers(STEPS, STEPS_BITS, STEPS_ENDS)
        self.assert_papers(((5,),), [(1, 1, 0)], [(1, 1, 1)])
        self.assert_papers(((5, 0),), [(1, 1, 0), (1, 2, 0), (1, 3, 1)], [(1, 1, 1), (1, 2, 1), (1, 3, 2)])
        self.assert_papers(((5,), (0,)), [(1, 1, 0), (2, 1, 0), (3, 1, 1)], [(1, 1, 1), (2, 1, 1), (3, 1, 2)])

    def test_the_whole_of_some_tables_by_hand(self):
        for table, bits, ends in ((alike(3), 3, 6), (less(3, 3), 3, 5), (sums(2, 2), 2, 4), (((0, 1, 2, 3),), 2, 4),
                                  (((0, 1, 2, 3, 4),), 3, 5), (((0,), (1,), (2,)), 2, 3)):
            with self.subTest(table=table):
                self.assertEqual(bits_paper(table)[-1][2], bits)
                self.assertEqual(ends_paper(table)[-1][2], ends)

    def test_one_word(self):
        for word in range(10):
            for rows in (1, 3, 8):
                for columns in (1, 2, 8):
                    self.assert_papers(((word,) * columns,) * rows, [(1, 1, 0)], [(1, 1, 1)])

    def test_parts_are_those_of_the_trimmed_table(self):
        self.assert_papers(((0, 1, 0), (0, 1, 0), (1, 0, 1)), CROSS_BITS, CROSS_ENDS)
        self.assert_papers(grown(CROSS, (0, 0, 1, 0, 1, 1, 1, 0), (0, 1, 1)), CROSS_BITS, CROSS_ENDS)
        self.assert_papers(grown(STEPS, (0, 0, 0, 1, 1), (0, 1, 0, 2, 2, 1)), STEPS_BITS, STEPS_ENDS)
        self.assert_papers(((0, 0), (1, 1)), [(1, 1, 0), (2, 1, 0), (3, 1, 1)], [(1, 1, 1), (2, 1, 1), (3, 1, 2)])
        self.assert_papers(((0, 1), (0, 1)), [(1, 1, 0), (1, 2, 0), (1, 3, 1)], [(1, 1, 1), (1, 2, 1), (1, 3, 2)])

    def test_after_the_words_of_the_document(self):
        tables = [alike(4), less(4, 5), less(5, 4), sums(4, 5, 3), shared(2), flipped(pick(2)), alike(5)]
        for rows, columns, words in ((2, 3, 2), (3, 2, 3), (3, 4, 2), (4, 3, 4), (4, 4, 2), (5, 3, 10), (5, 5, 2)):
            tables += of_kinds(rows, columns, words, 3)
        tables = [table for table in tables if len(set(table)) == len(table) and
                  len(set(zip(*table))) == len(table[0])]
        self.assertGreater(len(tables), 20)
        for table in tables:
            with self.subTest(table=table):
                self.assert_papers(table, reckoned_bits(table), reckoned_ends(table))

    def test_one_triple_for_each_part_and_no_other(self):
        for table, rows, columns in ((alike(5), 5, 5), (less(4, 5), 4, 5), (STEPS, 2, 3), (((1, 1), (1, 1)), 1, 1)):
            wanted = [(r, c) for r in range(1, 2 ** rows) for c in range(1, 2 ** columns)]
            for function in (bits_paper, ends_paper):
                self.assertEqual([triple[:2] for triple in function(table)], wanted)
                self.assertEqual(function(table), sorted(function(table)))

    def test_greatest_small_tables(self):
        for table in greatest_small(2, 3) + greatest_small(3, 2) + greatest_small(10, 2):
            firsts = tuple(dict.fromkeys(table))
            rest = tuple(zip(*dict.fromkeys(zip(*firsts))))
            self.assertEqual((len(rest), len(rest[0])), (5, 5))
            with self.subTest(table=table):
                self.assert_papers(table, reckoned_bits(rest), reckoned_ends(rest))

    def test_too_great(self):
        for table in great_tables():
            with self.subTest(table=table):
                self.assertRaises(TooGreat, bits_paper, table)
                self.assertRaises(TooGreat, ends_paper, table)

    def test_five_kinds_are_not_too_great(self):
        for table in (((0, 1, 2, 3, 4, 0, 1, 2),), ((0,), (1,), (2,), (3,), (4,), (0,), (0,)), alike(5), less(6, 5)):
            self.assertEqual(len(bits_paper(table)), len(ends_paper(table)))

    def test_each_call_has_a_list_of_its_own(self):
        for function, wanted in ((bits_paper, CROSS_BITS), (ends_paper, CROSS_ENDS)):
            first = function(CROSS)
            first.append("changed")
            first[0] = "changed"
            self.assertEqual(function(CROSS), wanted)

    def test_sides_exchanged(self):
        for table in [scrambled(4, 5, 3, seed) for seed in range(3)]:
            for function in (bits_paper, ends_paper):
                turned = sorted([(rows, columns, number) for columns, rows, number in function(flipped(table))])
                self.assertEqual(turned, function(table))


if __name__ == "__main__":
    unittest.main()
