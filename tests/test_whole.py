"""What the document promises over the whole program."""

import unittest

from talkleast.alone import alone_bits, codes
from talkleast.apart import apart
from talkleast.coins import worst_share
from talkleast.covers import fewest_cover
from talkleast.least import fewest_ends, fewest_plan, least_bits, least_plan
from talkleast.plans import bits_of, flipped_plan, outcomes_of
from talkleast.ranks import rank
from talkleast.runs import ends_of, settles
from talkleast.tables import column_kinds, cut, flipped, row_kinds, words_in
from talkleast.twos import rank_in_twos
from talkleast.weights import best_right, right_weight
from tests.helper import chain, grown, of_kinds, scrambled, small_tables


def plans_that_settle(table):
    """The least and the fewest plan, also of the flipped table, and two in which one side speaks alone first."""
    turned = flipped(table)
    return (least_plan(table), fewest_plan(table), flipped_plan(least_plan(turned)), flipped_plan(fewest_plan(turned)),
            rows_then_columns(table), flipped_plan(rows_then_columns(turned)))


def rows_then_columns(table):
    rows = sorted(set(row_kinds(table)))
    plan = columns_alone(table, rows[0])
    for row in rows[1:]:
        cards = sum(2 ** card for card, kind in enumerate(row_kinds(table)) if kind == row)
        plan = ("ask", "row", cards, plan, columns_alone(table, row))
    return plan


def columns_alone(table, row):
    words = sorted(set(table[row]))
    plan = ("end", words[0])
    for word in words[1:]:
        cards = sum(2 ** column for column, other in enumerate(table[row]) if other == word)
        plan = ("ask", "column", cards, plan, ("end", word))
    return plan


def numbers_of(table):
    """All numbers that leaving out rows or columns must not raise."""
    lengths = [alone_bits(table, "row"), alone_bits(table, "column")]
    blocks = [len(fewest_cover(table, word)) for word in range(10)]
    entries = [len(apart(table, word)) for word in range(10)]
    return [least_bits(table), fewest_ends(table), rank(table), rank_in_twos(table)] + lengths + blocks + entries


class Bounds(unittest.TestCase):
    def test_bits_and_outcomes_are_least_and_fewest(self):
        for table in small_tables():
            for plan in plans_that_settle(table):
                self.assertIs(settles(plan, table), True)
                self.assertGreaterEqual(bits_of(plan), least_bits(table))
                self.assertGreaterEqual(outcomes_of(plan), fewest_ends(table))
            self.assertLessEqual(fewest_ends(table), 2 ** least_bits(table))

    def test_entries_that_keep_apart(self):
        for table in small_tables():
            entries = [len(apart(table, word)) for word in range(10)]
            for word in range(10):
                self.assertLessEqual(entries[word], len(fewest_cover(table, word)))
                self.assertEqual(entries[word] > 0, word in words_in(table))
            for plan in plans_that_settle(table):
                self.assertLessEqual(sum(entries), outcomes_of(plan))

    def test_ends_with_a_word_cover_it(self):
        for table in small_tables():
            for plan in plans_that_settle(table):
                words = [end[2] for end in ends_of(plan, 2 ** len(table) - 1, 2 ** len(table[0]) - 1)]
                for word in range(10):
                    self.assertLessEqual(len(fewest_cover(table, word)), words.count(word))

    def test_ranks_and_outcomes_with_a_word_other_than_nought(self):
        for table in small_tables():
            for plan in plans_that_settle(table):
                words = [end[2] for end in ends_of(plan, 255, 255)]
                self.assertLessEqual(rank(table), len(words) - words.count(0))
                self.assertLessEqual(rank_in_twos(table), len([word for word in words if word % 2]))
            self.assertLessEqual(rank_in_twos(table), rank(table))

    def test_a_side_that_speaks_alone_just_names_its_kinds(self):
        for table in small_tables() + of_kinds(8, 7, 3, 2):
            for side, kinds in (("row", row_kinds(table)), ("column", column_kinds(table))):
                bits = alone_bits(table, side)
                self.assertLessEqual(len(set(kinds)), 2 ** bits)
                self.assertTrue(bits == 0 or len(set(kinds)) > 2 ** (bits - 1))
                for one, kind in zip(codes(table, side), kinds):
                    for other, another in zip(codes(table, side), kinds):
                        self.assertEqual(one == other, kind == another)

    def test_least_bits_are_at_most_both_codes(self):
        for table in small_tables():
            self.assertLessEqual(least_bits(table), alone_bits(table, "row") + alone_bits(table, "column"))


class Weighed(unittest.TestCase):
    def tables(self):
        found = [table for table in small_tables() if len(table) <= 4 and len(table[0]) <= 4]
        self.assertGreater(len(found), 30)
        return found

    def weights(self, table, seed):
        """Some weights of all sorts, and the ones that are 1 throughout."""
        return [[1 if seed == 0 else weight for weight in row] for row in scrambled(len(table), len(table[0]), 30, seed)]

    def mixes(self, table, bits):
        """Mixes of plans within the bits: best plans for several weights, ends, and plans that ask in vain."""
        plans = [best_right(table, self.weights(table, seed), most)[1] for seed in range(4) for most in range(bits + 1)]
        plans += [("end", word) for word in words_in(table)] + [chain(bits), chain(bits, "column", False)]
        plans += [plan for plan in (least_plan(table), fewest_plan(table)) if bits_of(plan) <= bits]
        self.assertLessEqual(max(bits_of(plan) for plan in plans), bits)
        shares = [1 + 7 * number % 5 for number in range(len(plans))]
        return [[(share, plan)] for share, plan in zip(shares, plans)] + \
            [list(zip(shares, plans))[start:start + size] for start in (0, 2) for size in (2, 5, 20)]

    def test_worst_share_times_all_weight_is_at_most_the_best(self):
        for table in self.tables():
            for bits in range(5):
                best = [(self.weights(table, seed), best_right(table, self.weights(table, seed), bits)[0]) for seed in range(3)]
                for mix in self.mixes(table, bits):
                    top, bottom, row, column = worst_share(table, mix)
                    for weights, weight in best:
                        self.assertLessEqual(top * sum(map(sum, weights)), bottom * weight)

    def test_least_bits_are_the_first_with_all_weight(self):
        for table in self.tables():
            ones = self.weights(table, 0)
            everything = sum(map(sum, ones))
            for bits in range(5):
                self.assertEqual(best_right(table, ones, bits)[0] == everything, least_bits(table) <= bits)

    def test_more_bits_never_weigh_less(self):
        for table in self.tables():
            weights = self.weights(table, 2)
            found = [best_right(table, weights, bits)[0] for bits in range(5)]
            self.assertEqual(found, sorted(found))

    def test_sides_exchanged(self):
        for table in self.tables():
            weights = self.weights(table, 1)
            turned = [list(column) for column in zip(*weights)]
            for bits in range(4):
                weight, plan = best_right(table, weights, bits)
                self.assertEqual(best_right(flipped(table), turned, bits)[0], weight)
                self.assertEqual(right_weight(flipped(table), turned, flipped_plan(plan)), weight)


class Exchanged(unittest.TestCase):
    def test_numbers_stay_and_lengths_of_codes_change_places(self):
        for table in small_tables():
            wanted = numbers_of(table)
            wanted[4], wanted[5] = wanted[5], wanted[4]
            self.assertEqual(numbers_of(flipped(table)), wanted)

    def test_plans_settle_the_flipped_table(self):
        for table in small_tables():
            for plan in plans_that_settle(table):
                self.assertIs(settles(flipped_plan(plan), flipped(table)), True)


class LeftOut(unittest.TestCase):
    def test_nothing_rises(self):
        tables = of_kinds(5, 5, 2, 2) + of_kinds(5, 4, 3, 1) + of_kinds(4, 5, 10, 1)
        tables.append(grown(scrambled(4, 4, 2, 1), (0, 1, 0, 2, 3, 3, 1, 0), (0, 1, 2, 3, 0, 1, 2, 3)))
        for table in tables:
            before = numbers_of(table)
            all_rows = 2 ** len(table) - 1
            all_columns = 2 ** len(table[0]) - 1
            parts = [(all_rows - 2 ** row, all_columns) for row in range(len(table))]
            parts += [(all_rows, all_columns - 2 ** column) for column in range(len(table[0]))]
            parts += [(rows & all_rows, columns & all_columns) for rows in (6, 13) for columns in (5, 11)]
            for rows, columns in parts:
                with self.subTest(table=table, rows=rows, columns=columns):
                    after = numbers_of(cut(table, rows, columns))
                    self.assertTrue(all(now <= then for now, then in zip(after, before)))


if __name__ == "__main__":
    unittest.main()
