import copy
import itertools
import math
import unittest
from fractions import Fraction

from talkleast.errors import NoCard
from talkleast.named import alike, less, pick, shared, sums
from talkleast.ranks import base, determinant, makeup, rank
from talkleast.tables import flipped
from tests.helper import NO_CARDS, greatest_small, grown, of_kinds, scrambled


def tables():
    found = [alike(n) for n in (1, 5, 8)] + [less(8, 8), less(3, 7), sums(8, 8, 3), sums(5, 8, 2), shared(3), pick(3)]
    found += [scrambled(rows, columns, words, 7) for rows in (1, 2, 3, 5, 8) for columns in (1, 2, 4, 8) for words in (2, 10)]
    found += [grown(scrambled(4, 4, 10, seed), (0, 0, 1, 1, 2, 0, 3, 2), (3, 3, 1, 0, 2)) for seed in range(4)]
    found += [((0,),), ((7,),), ((0,) * 8,) * 8, ((3,) * 4,) * 5, ((0, 0), (1, 2), (2, 4), (0, 0), (9, 1)),
              ((0, 0, 1), (0, 0, 2), (0, 3, 0)), ((1, 2, 3), (4, 5, 6), (7, 8, 9)), ((2, 4), (3, 6), (1, 2))]
    return found + greatest_small(2, 2) + of_kinds(8, 8, 10, 2) + [scrambled(8, 3, 3, 1), scrambled(3, 8, 3, 1)]


def by_permutations(square):
    """The determinant after the words of [24]."""
    total = 0
    for columns in itertools.permutations(range(len(square))):
        turned = sum(one > other for one, other in itertools.combinations(columns, 2))
        total += (-1) ** turned * math.prod(row[column] for row, column in zip(square, columns))
    return total


def is_sum(line, others):
    """Whether a line is a sum of others, each times a fraction."""
    rows = [[Fraction(other[place]) for other in others] + [Fraction(line[place])] for place in range(len(line))]
    done = 0
    for column in range(len(others)):
        for place in range(done, len(rows)):
            if rows[place][column]:
                rows[done], rows[place] = rows[place], rows[done]
                rows[done] = [number / rows[done][column] for number in rows[done]]
                for other in range(len(rows)):
                    if other != done:
                        factor = rows[other][column]
                        rows[other] = [a - factor * b for a, b in zip(rows[other], rows[done])]
                done += 1
                break
    return not any(row[-1] for row in rows[done:])


def base_after_the_words(lines):
    return [index for index in range(len(lines)) if not is_sum(lines[index], lines[:index])]


class Determinant(unittest.TestCase):
    def test_written_out(self):
        for square, wanted in (
            ([], 1), ([[0]], 0), ([[1]], 1), ([[-7]], -7), ([[1, 2], [3, 4]], -2), ([[0, 1], [1, 0]], -1),
            ([[2, 0], [0, 3]], 6), ([[1, 2], [2, 4]], 0), ([[0, 1, 0], [0, 0, 1], [1, 0, 0]], 1),
            ([[1, 2, 3], [4, 5, 6], [7, 8, 9]], 0), ([[2, -1, 0], [1, 0, 3], [0, 5, -2]], -32),
            ([[0, 0, 1], [0, 1, 0], [1, 0, 0]], -1), ([[0, 2, 0, 0], [3, 0, 0, 0], [0, 0, 0, 5], [0, 0, 7, 0]], 210),
        ):
            with self.subTest(square=square):
                self.assertEqual(determinant(square), wanted)
                self.assertIs(type(determinant(square)), int)

    def test_one_to_eight_rows(self):
        for size in range(1, 9):
            for seed in range(3 if size < 8 else 1):
                square = [[word - 5 for word in row] for row in scrambled(size, size, 12, seed)]
                with self.subTest(square=square):
                    self.assertEqual(determinant(square), by_permutations(square))

    def test_the_diagonal_alone(self):
        for size in range(9):
            square = [[(row + 2) * (row == column) for column in range(size)] for row in range(size)]
            self.assertEqual(determinant(square), math.factorial(size + 1))
            turned = [[column == size - 1 - row and 1 or 0 for column in range(size)] for row in range(size)]
            self.assertEqual(determinant(turned), (-1) ** (size * (size - 1) // 2))

    def test_two_rows_or_columns_exchanged(self):
        for size in (2, 3, 5, 8):
            square = [[word - 4 for word in row] for row in scrambled(size, size, 10, 2)]
            value = determinant(square)
            self.assertNotEqual(value, 0)
            for one, other in itertools.combinations(range(size), 2):
                rows = copy.deepcopy(square)
                rows[one], rows[other] = rows[other], rows[one]
                self.assertEqual(determinant(rows), -value)
                columns = copy.deepcopy(square)
                for row in columns:
                    row[one], row[other] = row[other], row[one]
                self.assertEqual(determinant(columns), -value)
                rows[one] = list(rows[other])
                self.assertEqual(determinant(rows), 0)

    def test_great_ints(self):
        great = 10 ** 30
        self.assertEqual(determinant([[great, 1], [-1, great]]), great * great + 1)
        self.assertEqual(determinant([[great, great + 1], [great - 1, great]]), 1)

    def test_argument_stays(self):
        square = [[0, 1, 2], [3, 0, 4], [5, 6, 0]]
        before = copy.deepcopy(square)
        self.assertEqual(determinant(square), determinant(square))
        self.assertEqual(square, before)


class Base(unittest.TestCase):
    def assert_base(self, table, rows, columns):
        found = base(table)
        self.assertEqual(found, (rows, columns))
        self.assertIs(type(found), tuple)
        for part in found:
            self.assertIs(type(part), list)
            for number in part:
                self.assertIs(type(number), int)
        self.assertEqual(rank(table), len(rows))
        self.assertIs(type(rank(table)), int)
        found[0].append("changed")
        found[1].append("changed")
        self.assertEqual(base(table), (rows, columns))

    def test_by_hand(self):
        self.assert_base(((0, 0), (1, 2), (2, 4), (0, 0), (9, 1)), [1, 4], [0, 1])
        self.assert_base(((0, 0, 1), (0, 0, 2), (0, 3, 0)), [0, 2], [1, 2])
        self.assert_base(((1, 2, 3), (4, 5, 6), (7, 8, 9)), [0, 1], [0, 1])
        self.assert_base(((2, 4), (3, 6), (1, 2)), [0], [0])
        self.assert_base(alike(8), list(range(8)), list(range(8)))
        self.assert_base(less(3, 4), [0, 1, 2], [1, 2, 3])
        self.assert_base(sums(2, 3), [0, 1], [0, 1])
        self.assert_base(shared(3), [1, 2, 4], [1, 2, 4])

    def test_noughts(self):
        self.assert_base(((0,),), [], [])
        self.assert_base(((0,) * 8,) * 8, [], [])
        self.assert_base(((0, 0, 0), (0, 0, 5)), [1], [2])

    def test_equal_rows(self):
        self.assert_base(((3,) * 4,) * 5, [0], [0])
        self.assert_base(((0, 1), (0, 1), (1, 0), (0, 1), (1, 1)), [0, 2], [0, 1])

    def test_more_rows_than_columns_and_the_other_way_around(self):
        self.assertEqual(rank(scrambled(8, 3, 10, 1)), 3)
        self.assertEqual(rank(scrambled(3, 8, 10, 1)), 3)
        self.assertEqual(rank(pick(3)), 3)
        self.assertEqual(rank(flipped(pick(3))), 3)
        self.assertEqual(rank(((1,),) * 8), 1)
        self.assertEqual(rank(((1,) * 8,)), 1)

    def test_after_the_words_of_the_document(self):
        for table in tables():
            with self.subTest(table=table):
                self.assert_base(table, base_after_the_words(table), base_after_the_words(list(zip(*table))))

    def test_square_of_the_base(self):
        for table in tables():
            rows, columns = base(table)
            self.assertEqual(len(rows), len(columns))
            square = [[table[row][column] for column in columns] for row in rows]
            self.assertNotEqual(determinant(square), 0)
            self.assertEqual(rank(flipped(table)), rank(table))


class Makeup(unittest.TestCase):
    def test_by_hand(self):
        table = ((2, 4, 0), (3, 6, 0), (0, 0, 0), (1, 1, 0), (0, 2, 0), (7, 5, 0))
        for row, wanted in enumerate(((1, [1, 0]), (2, [3, 0]), (1, [0, 0]), (1, [0, 1]), (1, [1, -2]), (1, [-1, 9]))):
            self.assertEqual(makeup(table, row), wanted)
        self.assertEqual(makeup(((6, 0), (0, 4), (3, 2), (9, 0), (2, 3)), 2), (2, [1, 1]))
        self.assertEqual(makeup(((6, 0), (0, 4), (3, 2), (9, 0), (2, 3)), 3), (2, [3, 0]))
        self.assertEqual(makeup(((6, 0), (0, 4), (3, 2), (9, 0), (2, 3)), 4), (12, [4, 9]))
        self.assertEqual(makeup(((0, 1), (1, 0), (1, 1)), 2), (1, [1, 1]))

    def test_noughts_alone(self):
        self.assertEqual(makeup(((0,),), 0), (1, []))
        self.assertEqual(makeup(((0,) * 8,) * 8, 7), (1, []))
        self.assertEqual(makeup(((0, 0), (0, 5)), 0), (1, [0]))

    def test_each_row_of_each_table(self):
        for table in tables():
            rows = base(table)[0]
            for index, row in enumerate(table):
                with self.subTest(table=table, row=index):
                    found = makeup(table, index)
                    self.assertIs(type(found), tuple)
                    times, ints = found
                    self.assertIs(type(ints), list)
                    for number in [times] + ints:
                        self.assertIs(type(number), int)
                    self.assertGreaterEqual(times, 1)
                    self.assertEqual(math.gcd(times, *ints), 1)
                    self.assertEqual(len(ints), len(rows))
                    for column, word in enumerate(row):
                        self.assertEqual(times * word, sum(n * table[r][column] for n, r in zip(ints, rows)))

    def test_base_rows_are_made_of_themselves(self):
        for table in tables():
            rows = base(table)[0]
            for place, row in enumerate(rows):
                self.assertEqual(makeup(table, row), (1, [int(place == other) for other in range(len(rows))]))

    def test_no_card(self):
        for wrong in NO_CARDS:
            for table in (((1,),), shared(2), scrambled(8, 8, 10, 1)):
                with self.subTest(wrong=wrong):
                    self.assertRaises(NoCard, makeup, table, wrong)
        self.assertRaises(NoCard, makeup, ((1, 2, 3), (4, 5, 6)), 2)
        self.assertRaises(NoCard, makeup, ((1, 2, 3),), 1)
        self.assertEqual(makeup(((1,), (2,), (3,)), 2), (1, [3]))

    def test_each_call_has_a_list_of_its_own(self):
        first = makeup(shared(2), 3)
        first[1].append("changed")
        self.assertEqual(makeup(shared(2), 3), (1, [1, 1]))


if __name__ == "__main__":
    unittest.main()
