import copy
import unittest

from talkleast.errors import TooGreat
from talkleast.named import alike, less, sums
from talkleast.plans import bits_of, made_plan
from talkleast.runs import run
from talkleast.tables import flipped
from talkleast.weights import best_right, right_weight, weight_paper
from tests.helper import bushy, cards_of, chain, lists_split, reached_by_bits, scrambled, table_of

CROSS = ((0, 1), (1, 0))
CROSS_WEIGHTS = [[1, 2], [3, 4]]
# Reckoned by hand.
CROSS_PAPER = [
    (1, 1, 0, 1), (1, 1, 1, 1), (1, 1, 2, 1), (1, 2, 0, 2), (1, 2, 1, 2), (1, 2, 2, 2), (1, 3, 0, 2), (1, 3, 1, 3), (1, 3, 2, 3),
    (2, 1, 0, 3), (2, 1, 1, 3), (2, 1, 2, 3), (2, 2, 0, 4), (2, 2, 1, 4), (2, 2, 2, 4), (2, 3, 0, 4), (2, 3, 1, 7), (2, 3, 2, 7),
    (3, 1, 0, 3), (3, 1, 1, 4), (3, 1, 2, 4), (3, 2, 0, 4), (3, 2, 1, 6), (3, 2, 2, 6), (3, 3, 0, 5), (3, 3, 1, 7), (3, 3, 2, 10),
]
GREAT = 99999999999999999999


def weights_for(table, seed, most=10):
    return [list(row) for row in scrambled(len(table), len(table[0]), most, seed)]


def cases():
    """Tables of at most four rows and columns with weights."""
    found = [(CROSS, CROSS_WEIGHTS), (alike(4), weights_for(alike(4), 1)), (less(4, 3), [[1] * 3 for row in range(4)])]
    found += [(((5,),), [[0]]), (((5,),), [[GREAT]]), (((1, 2, 1, 3),), [[GREAT, 1, GREAT, 2]])]
    for rows in range(1, 5):
        for columns in range(1, 5):
            for words in (2, 10):
                table = scrambled(rows, columns, words, 8)
                found.append((table, weights_for(table, words)))
    table = sums(3, 4, 3)
    found.append((table, [[0] * 4 for row in table]))
    found.append((table, [[GREAT - 7 * row - column for column in range(4)] for row in range(3)]))
    return found


def paper_after_the_words(table, weights, bits):
    known = {}

    def best(rows, columns, left):
        key = (sum(2 ** row for row in rows), sum(2 ** column for column in columns), left)
        if key not in known:
            entries = [(row, column) for row in rows for column in columns]
            if left == 0:
                known[key] = max(sum(weights[r][c] for r, c in entries if table[r][c] == word) for word in range(10))
            else:
                found = [best(rows, columns, left - 1)]
                found += [best(a, columns, left - 1) + best(b, columns, left - 1) for a, b in lists_split(rows)]
                found += [best(rows, a, left - 1) + best(rows, b, left - 1) for a, b in lists_split(columns)]
                known[key] = max(found)
        return known[key]

    for rows in range(1, 2 ** len(table)):
        for columns in range(1, 2 ** len(table[0])):
            for left in range(bits + 1):
                best(cards_of(rows), cards_of(columns), left)
    return sorted([key + (known[key],) for key in known])


class RightWeight(unittest.TestCase):
    def assert_weight(self, table, weights, plan, wanted):
        self.assertEqual(right_weight(table, weights, plan), wanted)
        self.assertIs(type(right_weight(table, weights, plan)), int)

    def test_by_hand(self):
        self.assert_weight(CROSS, CROSS_WEIGHTS, ("end", 0), 5)
        self.assert_weight(CROSS, CROSS_WEIGHTS, ("end", 1), 5)
        self.assert_weight(CROSS, CROSS_WEIGHTS, ("end", 2), 0)
        self.assert_weight(CROSS, CROSS_WEIGHTS, ("ask", "row", 1, ("end", 0), ("end", 1)), 6)
        self.assert_weight(CROSS, CROSS_WEIGHTS, ("ask", "row", 1, ("end", 1), ("end", 0)), 4)
        self.assert_weight(CROSS, CROSS_WEIGHTS, ("ask", "column", 1, ("end", 0), ("end", 1)), 7)

    def test_weights_of_nought_and_of_twenty_digits(self):
        self.assert_weight(CROSS, [[0, 0], [0, 0]], ("end", 0), 0)
        self.assert_weight(CROSS, [[GREAT, 0], [0, GREAT]], ("end", 0), 2 * GREAT)
        self.assert_weight(((7,) * 8,) * 8, [[GREAT] * 8 for row in range(8)], ("end", 7), 64 * GREAT)

    def test_tables_of_all_sizes(self):
        for rows in (1, 4, 5, 6, 8):
            for columns in (1, 3, 5, 7, 8):
                table = scrambled(rows, columns, 4, 3)
                weights = weights_for(table, 5, 1000)
                for plan in (("end", 3), chain(12), bushy(40), bushy(300), ("ask", "row", 5, ("end", 1), ("end", 2))):
                    wanted = sum(weights[r][c] for r in range(rows) for c in range(columns)
                                 if run(plan, r, c)[1] == table[r][c])
                    self.assert_weight(table, weights, plan, wanted)


class WeightPaper(unittest.TestCase):
    def assert_paper(self, table, weights, bits, wanted):
        found = weight_paper(table, weights, bits)
        self.assertEqual(found, wanted)
        self.assertIs(type(found), list)
        for four in found:
            self.assertIs(type(four), tuple)
            for number in four:
                self.assertIs(type(number), int)
        found.append("changed")
        self.assertEqual(weight_paper(table, weights, bits), wanted)

    def test_by_hand(self):
        for bits in (0, 1, 2):
            self.assert_paper(CROSS, CROSS_WEIGHTS, bits, [four for four in CROSS_PAPER if four[2] <= bits])
        self.assert_paper(((5,),), [[7]], 0, [(1, 1, 0, 7)])
        self.assert_paper(((5,),), [[0]], 1, [(1, 1, 0, 0), (1, 1, 1, 0)])
        self.assert_paper(((5, 6),), [[GREAT, 1]], 1, [(1, 1, 0, GREAT), (1, 1, 1, GREAT), (1, 2, 0, 1), (1, 2, 1, 1),
                                                       (1, 3, 0, GREAT), (1, 3, 1, GREAT + 1)])

    def test_equal_rows_and_columns_are_not_trimmed(self):
        self.assert_paper(((3, 3),), [[1, 2]], 0, [(1, 1, 0, 1), (1, 2, 0, 2), (1, 3, 0, 3)])
        self.assertEqual(len(weight_paper(((3,) * 4,) * 4, [[1] * 4 for row in range(4)], 4)), 15 * 15 * 5)

    def test_after_the_words_of_the_document(self):
        for table, weights in cases():
            for bits in (0, 1, 2, 3, 4):
                with self.subTest(table=table, weights=weights, bits=bits):
                    self.assert_paper(table, weights, bits, paper_after_the_words(table, weights, bits))

    def test_sides_exchanged(self):
        for table, weights in cases():
            turned = weight_paper(flipped(table), [list(column) for column in zip(*weights)], 2)
            self.assert_paper(table, weights, 2, sorted([(r, c, bits, weight) for c, r, bits, weight in turned]))


class BestRight(unittest.TestCase):
    def test_by_hand(self):
        for bits, wanted in ((0, 5), (1, 7), (2, 10), (3, 10), (4, 10)):
            self.assertEqual(best_right(CROSS, CROSS_WEIGHTS, bits)[0], wanted)
        self.assertIn(best_right(CROSS, CROSS_WEIGHTS, 1)[1], (("ask", "column", 1, ("end", 0), ("end", 1)),
                                                               ("ask", "column", 2, ("end", 1), ("end", 0))))
        self.assertEqual(best_right(((5,),), [[7]], 4), (7, ("end", 5)))
        self.assertEqual(best_right(((5, 6),), [[1, GREAT]], 0), (GREAT, ("end", 6)))
        self.assertEqual(best_right(((0, 0), (0, 0)), [[0, 0], [0, 0]], 0)[0], 0)

    def test_the_weight_of_the_whole_and_a_plan_within_the_bits(self):
        for table, weights in cases():
            for bits in (0, 1, 2, 3, 4):
                with self.subTest(table=table, weights=weights, bits=bits):
                    found = best_right(table, weights, bits)
                    self.assertIs(type(found), tuple)
                    weight, plan = found
                    self.assertIs(type(weight), int)
                    self.assertEqual(weight, weight_paper(table, weights, bits)[-1][3])
                    made_plan(plan)
                    self.assertLessEqual(bits_of(plan), bits)
                    self.assertEqual(right_weight(table, weights, plan), weight)
                    self.assertEqual(best_right(table, weights, bits), found)

    def test_no_plan_at_all_has_more(self):
        levels = reached_by_bits(3)
        for number in range(0, 512, 5):
            table = table_of(number)
            weights = weights_for(table, number, 50)
            flat = [weight for row in weights for weight in row]
            for bits, level in enumerate(levels):
                most = max(sum(flat[place] for place in range(9) if not (number ^ other) >> place & 1) for other in level)
                self.assertEqual(best_right(table, weights, bits)[0], most)

    def test_arguments_stay(self):
        weights = [[1, 2], [3, 4]]
        before = copy.deepcopy(weights)
        best_right(CROSS, weights, 2)
        weight_paper(CROSS, weights, 2)
        right_weight(CROSS, weights, ("end", 0))
        self.assertEqual(weights, before)


class Great(unittest.TestCase):
    def test_too_great(self):
        for rows, columns in ((5, 4), (4, 5), (5, 5), (5, 1), (1, 5), (8, 8), (8, 1), (1, 8)):
            for table in (scrambled(rows, columns, 2, 1), ((6,) * columns,) * rows):
                weights = [[1] * columns for row in range(rows)]
                for bits in (0, 4):
                    with self.subTest(table=table, bits=bits):
                        self.assertRaises(TooGreat, best_right, table, weights, bits)
                        self.assertRaises(TooGreat, weight_paper, table, weights, bits)

    def test_four_rows_and_columns_are_not_too_great(self):
        table = scrambled(4, 4, 10, 1)
        self.assertEqual(best_right(table, [[1] * 4 for row in table], 4)[0], weight_paper(table, [[1] * 4] * 4, 4)[-1][3])


if __name__ == "__main__":
    unittest.main()
