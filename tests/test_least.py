import unittest

from talkleast.errors import TooGreat
from talkleast.least import fewest_ends, fewest_plan, least_bits, least_plan
from talkleast.named import alike, less, pick, shared, sums
from talkleast.parts import bits_paper, ends_paper
from talkleast.plans import bits_of, made_plan, outcomes_of
from talkleast.runs import settles
from talkleast.tables import flipped
from tests.helper import great_tables, greatest_small, grown, halves, reached_by_bits, scrambled, table_of


def tables():
    found = [alike(n) for n in range(1, 6)] + [less(5, 5), less(6, 5), less(8, 5), less(4, 8), shared(1), shared(2), pick(2)]
    found += [sums(n, m, k) for n in (1, 3, 8) for m in (2, 4, 8) for k in (2, 3, 5)]
    found += [((word,) * columns,) * rows for word in (0, 9) for rows in (1, 8) for columns in (1, 8)]
    found += [scrambled(rows, columns, words, 1) for rows in range(1, 6) for columns in range(1, 6) for words in (2, 4, 10)]
    found += [grown(scrambled(3, 4, 3, seed), (0, 1, 1, 2, 0, 2, 1, 0), (3, 0, 0, 1, 2, 2, 1)) for seed in range(5)]
    return found + greatest_small(2, 4) + greatest_small(3, 4) + greatest_small(10, 3)


def sets_in(plan):
    """All (side, cards) of a plan."""
    if plan[0] == "end":
        return []
    return [plan[1:3]] + sets_in(plan[3]) + sets_in(plan[4])


def reached_by_ends(most):
    levels = [set(), {0, 511}]
    for ends in range(2, most + 1):
        found = set(levels[-1])
        for first in range(1, ends):
            for half in halves():
                for one in {table & half for table in levels[first]}:
                    found.update(one | other for other in {table & ~half & 511 for table in levels[ends - first]})
        levels.append(found)
    return levels


class Least(unittest.TestCase):
    def test_reckoned_by_hand(self):
        for table, bits, ends in (
            (((4,),), 0, 1), (((4, 4), (4, 4)), 0, 1), (((0, 1), (1, 0)), 2, 4), (((0, 0), (0, 1)), 2, 3),
            (((0, 1, 2), (0, 0, 1)), 3, 5), (alike(3), 3, 6), (((0, 1, 2, 3, 4),), 3, 5), (((0, 1),) * 8, 1, 2),
            (((0,), (1,), (2,), (3,)), 2, 4), (((0, 1, 2), (3, 4, 5)), 3, 6), (alike(2), 2, 4),
        ):
            with self.subTest(table=table):
                self.assertEqual(least_bits(table), bits)
                self.assertEqual(fewest_ends(table), ends)
                self.assertIs(type(least_bits(table)), int)
                self.assertIs(type(fewest_ends(table)), int)

    def test_no_plan_at_all_has_fewer(self):
        by_bits = reached_by_bits(3)
        by_ends = reached_by_ends(7)
        for number in range(512):
            table = table_of(number)
            bits = least_bits(table)
            ends = fewest_ends(table)
            self.assertIn(number, (by_bits + [set(range(512))])[bits])
            self.assertFalse(bits > 0 and number in by_bits[bits - 1])
            self.assertFalse(number in by_ends[min(ends - 1, 7)])
            self.assertTrue(ends > 7 or number in by_ends[ends])

    def test_numbers_are_those_of_the_whole_part(self):
        for table in tables():
            self.assertEqual(least_bits(table), max(bits_paper(table))[2])
            self.assertEqual(fewest_ends(table), max(ends_paper(table))[2])


class Plans(unittest.TestCase):
    def assert_plan(self, plan, table):
        made_plan(plan)
        self.assertIs(settles(plan, table), True)
        for side, cards in sets_in(plan):
            self.assertLess(cards, 2 ** (len(table) if side == "row" else len(table[0])))

    def test_least_plan(self):
        for table in tables():
            with self.subTest(table=table):
                plan = least_plan(table)
                self.assert_plan(plan, table)
                self.assertEqual(bits_of(plan), bits_paper(table)[-1][2])
                self.assertEqual(least_plan(table), plan)

    def test_fewest_plan(self):
        for table in tables():
            with self.subTest(table=table):
                plan = fewest_plan(table)
                self.assert_plan(plan, table)
                self.assertEqual(outcomes_of(plan), ends_paper(table)[-1][2])
                self.assertEqual(fewest_plan(table), plan)

    def test_one_word(self):
        for word in range(10):
            for table in (((word,),), ((word,) * 8,) * 8):
                self.assertEqual(least_plan(table), ("end", word))
                self.assertEqual(fewest_plan(table), ("end", word))

    def test_asks_speak_of_all_cards_of_a_kind(self):
        table = ((0, 0), (0, 0), (1, 1), (0, 0), (1, 1), (1, 1))
        for plan in (least_plan(table), fewest_plan(table)):
            self.assertIn(plan, (("ask", "row", 52, ("end", 0), ("end", 1)), ("ask", "row", 11, ("end", 1), ("end", 0))))

    def test_sides_exchanged(self):
        for table in tables():
            self.assertEqual(least_bits(flipped(table)), least_bits(table))
            self.assertEqual(fewest_ends(flipped(table)), fewest_ends(table))
            self.assert_plan(least_plan(flipped(table)), flipped(table))


class Great(unittest.TestCase):
    def test_too_great(self):
        for table in great_tables():
            for function in (least_bits, fewest_ends, least_plan, fewest_plan):
                with self.subTest(function=function.__name__, table=table):
                    self.assertRaises(TooGreat, function, table)

    def test_greatest_small_tables(self):
        for table in greatest_small(2, 10):
            self.assertEqual((len(table), len(table[0]), len(set(table)), len(set(zip(*table)))), (8, 8, 5, 5))
            self.assertEqual(bits_of(least_plan(table)), least_bits(table))
            self.assertEqual(outcomes_of(fewest_plan(table)), fewest_ends(table))


if __name__ == "__main__":
    unittest.main()
