import itertools
import unittest

from talkleast.errors import NoCard
from talkleast.named import alike, less, pick, shared, sums
from talkleast.ranks import determinant, rank
from talkleast.tables import flipped
from talkleast.twos import base_in_twos, makeup_in_twos, rank_in_twos
from tests.helper import NO_CARDS, greatest_small, grown, of_kinds, scrambled


def tables():
    found = [alike(n) for n in (1, 5, 8)] + [less(8, 8), less(3, 7), sums(8, 8, 3), sums(5, 8, 2), shared(3), pick(3)]
    found += [scrambled(rows, columns, words, 9) for rows in (1, 2, 3, 5, 8) for columns in (1, 2, 4, 8) for words in (2, 10)]
    found += [grown(scrambled(4, 4, 10, seed), (0, 0, 1, 1, 2, 0, 3, 2), (3, 3, 1, 0, 2)) for seed in range(4)]
    found += [((0,),), ((2,),), ((7,),), ((8,) * 8,) * 8, ((3,) * 4,) * 5, ((0, 1, 1), (1, 0, 1), (1, 1, 0))]
    return found + greatest_small(2, 3) + of_kinds(8, 8, 10, 3)


def sums_of(lines):
    """All sums modulo 2 of some of the lines, each with the indexes of those lines."""
    found = []
    for size in range(len(lines) + 1):
        for some in itertools.combinations(range(len(lines)), size):
            total = [sum(lines[index][place] for index in some) % 2 for place in range(len(lines[0]))]
            found.append((total, list(some)))
    return found


def base_after_the_words(lines):
    """Those lines that are no sum modulo 2 of lines ahead of them."""
    odd = [[word % 2 for word in line] for line in lines]
    found = []
    for index, line in enumerate(odd):
        if not any(line) or any(line == total for total, some in sums_of(odd[:index] or [[0] * len(line)])):
            continue
        found.append(index)
    return found


class Base(unittest.TestCase):
    def assert_base(self, table, rows, columns):
        found = base_in_twos(table)
        self.assertEqual(found, (rows, columns))
        self.assertIs(type(found), tuple)
        for part in found:
            self.assertIs(type(part), list)
            for number in part:
                self.assertIs(type(number), int)
        self.assertEqual(rank_in_twos(table), len(rows))
        self.assertIs(type(rank_in_twos(table)), int)
        found[0].append("changed")
        found[1].append("changed")
        self.assertEqual(base_in_twos(table), (rows, columns))

    def test_by_hand(self):
        self.assert_base(((0, 1, 1), (1, 0, 1), (1, 1, 0)), [0, 1], [0, 1])
        self.assert_base(((2, 4), (1, 3), (5, 0), (1, 1)), [1, 2], [0, 1])
        self.assert_base(((0, 0, 1), (0, 0, 3), (0, 3, 0)), [0, 2], [1, 2])
        self.assert_base(alike(8), list(range(8)), list(range(8)))
        self.assert_base(shared(3), [1, 2, 4], [1, 2, 4])

    def test_even_words_alone(self):
        self.assert_base(((0,),), [], [])
        self.assert_base(((8,) * 8,) * 8, [], [])
        self.assert_base(((2, 4), (6, 0)), [], [])

    def test_equal_rows_modulo_two(self):
        self.assert_base(((1, 2), (3, 8), (9, 0), (0, 1)), [0, 3], [0, 1])

    def test_more_rows_than_columns_and_the_other_way_around(self):
        self.assertEqual(rank_in_twos(pick(3)), 3)
        self.assertEqual(rank_in_twos(flipped(pick(3))), 3)
        self.assertEqual(rank_in_twos(((1,),) * 8), 1)
        self.assertEqual(rank_in_twos(((1,) * 8,)), 1)

    def test_after_the_words_of_the_document(self):
        for table in tables():
            with self.subTest(table=table):
                self.assert_base(table, base_after_the_words(table), base_after_the_words(list(zip(*table))))

    def test_square_of_the_base(self):
        for table in tables():
            rows, columns = base_in_twos(table)
            self.assertEqual(len(rows), len(columns))
            square = [[table[row][column] for column in columns] for row in rows]
            self.assertEqual(determinant(square) % 2, 1)
            self.assertEqual(rank_in_twos(flipped(table)), rank_in_twos(table))
            self.assertLessEqual(rank_in_twos(table), rank(table))


class Makeup(unittest.TestCase):
    def test_by_hand(self):
        table = ((0, 1, 1), (1, 0, 1), (1, 1, 0), (2, 4, 6), (3, 0, 5), (0, 0, 1), (1, 1, 1))
        wanted = ([0], [1], [0, 1], [], [1], [5], [0, 1, 5])
        for row, indexes in enumerate(wanted):
            self.assertEqual(makeup_in_twos(table, row), indexes)

    def test_each_row_of_each_table(self):
        for table in tables():
            rows = base_in_twos(table)[0]
            odd = [[word % 2 for word in row] for row in table]
            for index in range(len(table)):
                with self.subTest(table=table, row=index):
                    found = makeup_in_twos(table, index)
                    self.assertIs(type(found), list)
                    self.assertEqual(found, sorted(set(found)))
                    self.assertTrue(all(type(row) is int and row in rows for row in found))
                    total = [sum(odd[row][column] for row in found) % 2 for column in range(len(odd[0]))]
                    self.assertEqual(total, odd[index])
                    if index in rows:
                        self.assertEqual(found, [index])

    def test_no_card(self):
        for wrong in NO_CARDS:
            for table in (((1,),), shared(2), scrambled(8, 8, 10, 1)):
                with self.subTest(wrong=wrong):
                    self.assertRaises(NoCard, makeup_in_twos, table, wrong)
        self.assertRaises(NoCard, makeup_in_twos, ((1, 2, 3), (4, 5, 6)), 2)
        self.assertRaises(NoCard, makeup_in_twos, ((1, 2, 3),), 1)
        self.assertEqual(makeup_in_twos(((1,), (2,), (3,)), 2), [0])

    def test_each_call_has_a_list_of_its_own(self):
        for table in (shared(2), ((0, 0),) * 4):
            first = makeup_in_twos(table, 3)
            wanted = list(first)
            first.append("changed")
            self.assertEqual(makeup_in_twos(table, 3), wanted)


if __name__ == "__main__":
    unittest.main()
