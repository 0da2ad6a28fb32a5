import copy
import unittest
from fractions import Fraction

from talkleast.coins import right_share, worst_share
from talkleast.errors import NoCard
from talkleast.least import fewest_plan, least_plan
from talkleast.named import alike, less, sums
from talkleast.runs import run
from tests.helper import NO_CARDS, bushy, chain, greatest_small, scrambled

BY_ROW = ("ask", "row", 2, ("end", 0), ("end", 1))
BY_COLUMN = ("ask", "column", 2, ("end", 0), ("end", 1))
NEVER = ("end", 9)
AND = ((0, 0), (0, 1))
GREAT = 99999999999999999999


def mixes():
    return (
        [(1, BY_ROW)], [(7, ("end", 0))], [(1, BY_ROW), (1, BY_COLUMN)], [(2, BY_ROW), (4, BY_COLUMN), (6, ("end", 0))],
        [(GREAT, BY_ROW), (GREAT - 1, BY_COLUMN)], [(1, NEVER)], [(3, NEVER), (9, ("end", 1))],
        [(number + 1, bushy(number)) for number in range(20)], [(10 ** 19 + number, chain(number % 13)) for number in range(20)],
    )


def share(table, mix, row, column):
    top = sum(part for part, plan in mix if run(plan, row, column)[1] == table[row][column])
    return Fraction(top, sum(part for part, plan in mix))


class RightShare(unittest.TestCase):
    def assert_share(self, table, mix, row, column, top, bottom):
        found = right_share(table, mix, row, column)
        self.assertEqual(found, (top, bottom))
        self.assertIs(type(found), tuple)
        for number in found:
            self.assertIs(type(number), int)

    def test_by_hand(self):
        both = [(1, BY_ROW), (1, BY_COLUMN)]
        self.assert_share(AND, both, 0, 0, 1, 1)
        self.assert_share(AND, both, 0, 1, 1, 2)
        self.assert_share(AND, both, 1, 0, 1, 2)
        self.assert_share(AND, both, 1, 1, 1, 1)
        uneven = [(2, BY_ROW), (4, BY_COLUMN), (6, ("end", 0))]
        self.assert_share(AND, uneven, 0, 0, 1, 1)
        self.assert_share(AND, uneven, 0, 1, 2, 3)
        self.assert_share(AND, uneven, 1, 0, 5, 6)
        self.assert_share(AND, uneven, 1, 1, 1, 2)

    def test_nought_and_one(self):
        for part in (1, 2, GREAT):
            self.assert_share(AND, [(part, NEVER)], 0, 0, 0, 1)
            self.assert_share(AND, [(part, ("end", 0))], 0, 0, 1, 1)
            self.assert_share(AND, [(part, ("end", 0))], 1, 1, 0, 1)
            self.assert_share(AND, [(part, NEVER), (part, NEVER)], 0, 1, 0, 1)

    def test_the_same_plan_twice(self):
        self.assert_share(AND, [(1, BY_ROW), (2, NEVER), (1, BY_ROW)], 0, 0, 1, 2)

    def test_shares_of_twenty_digits(self):
        self.assert_share(AND, [(GREAT, BY_ROW), (GREAT - 1, NEVER)], 0, 0, GREAT, 2 * GREAT - 1)
        self.assert_share(AND, [(GREAT, BY_ROW), (GREAT, NEVER)], 0, 0, 1, 2)
        self.assert_share(AND, [(10 ** 19, BY_ROW), (3 * 10 ** 19, NEVER)], 0, 0, 1, 4)

    def test_each_row_and_column(self):
        for table in (AND, alike(8), less(3, 8), scrambled(8, 2, 10, 4), ((9,),)):
            for mix in mixes():
                for row in range(len(table)):
                    for column in range(len(table[0])):
                        wanted = share(table, mix, row, column)
                        self.assert_share(table, mix, row, column, wanted.numerator, wanted.denominator)

    def test_no_card(self):
        table = ((0, 1, 2), (3, 4, 5))
        for wrong in NO_CARDS + (3,):
            with self.subTest(wrong=wrong):
                self.assertRaises(NoCard, right_share, table, [(1, BY_ROW)], wrong, 0)
                self.assertRaises(NoCard, right_share, table, [(1, BY_ROW)], 0, wrong)
                self.assertRaises(NoCard, right_share, table, [(1, BY_ROW)], wrong, wrong)
        self.assertRaises(NoCard, right_share, table, [(1, BY_ROW)], 2, 0)
        self.assert_share(table, [(1, ("end", 2))], 0, 2, 1, 1)

    def test_arguments_stay(self):
        for mix in mixes():
            before = copy.deepcopy(mix)
            right_share(AND, mix, 0, 1)
            worst_share(AND, mix)
            self.assertEqual(mix, before)


class WorstShare(unittest.TestCase):
    def assert_worst(self, table, mix, wanted):
        found = worst_share(table, mix)
        self.assertEqual(found, wanted)
        self.assertIs(type(found), tuple)
        for number in found:
            self.assertIs(type(number), int)

    def test_by_hand(self):
        self.assert_worst(AND, [(1, BY_ROW), (1, BY_COLUMN)], (1, 2, 0, 1))
        self.assert_worst(AND, [(2, BY_ROW), (4, BY_COLUMN), (6, ("end", 0))], (1, 2, 1, 1))
        self.assert_worst(AND, [(1, BY_ROW)], (0, 1, 1, 0))
        self.assert_worst(AND, [(1, BY_COLUMN)], (0, 1, 0, 1))
        self.assert_worst(AND, [(5, NEVER)], (0, 1, 0, 0))
        self.assert_worst(AND, [(5, ("end", 0)), (2, ("end", 1))], (2, 7, 1, 1))
        self.assert_worst(((0, 1), (1, 0)), [(2, ("end", 0)), (4, ("end", 1))], (1, 3, 0, 0))

    def test_plans_that_settle(self):
        for table in (alike(5), less(8, 5), sums(8, 8), greatest_small(3, 1)[0]):
            self.assert_worst(table, [(3, least_plan(table)), (GREAT, fewest_plan(table))], (1, 1, 0, 0))

    def test_the_first_pair_in_order_of_rows_and_then_columns(self):
        for table in (AND, alike(8), less(3, 8), sums(4, 4, 3), scrambled(8, 2, 10, 4), scrambled(8, 8, 3, 4), ((9,),)):
            for mix in mixes():
                shares = [(share(table, mix, row, column), row, column)
                          for row in range(len(table)) for column in range(len(table[0]))]
                least = min(part for part, row, column in shares)
                wanted = [(part.numerator, part.denominator, row, column) for part, row, column in shares if part == least]
                self.assert_worst(table, mix, wanted[0])
                self.assertEqual(worst_share(table, mix)[:2], right_share(table, mix, wanted[0][2], wanted[0][3]))


if __name__ == "__main__":
    unittest.main()
