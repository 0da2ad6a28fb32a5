import copy
import unittest

from talkleast.errors import NoCard, NoTable
from talkleast.tables import (
    column_kinds, cut, flipped, is_small, made_table, row_kinds, trimmed, words_in,
)
from tests.helper import NO_INTS, Table

WIDE = ((0, 1, 2, 3), (4, 5, 6, 7), (8, 9, 0, 1))
# Rows 0 and 2 are equal, rows 1 and 4, columns 0 and 3.
TWINS = ((1, 0, 2, 1), (0, 0, 3, 0), (1, 0, 2, 1), (9, 0, 2, 9), (0, 0, 3, 0))


def numbered(rows, columns):
    """A table in which all rows are of different kinds, and all columns."""
    return tuple(tuple(1 if r == c else 2 if r > c else 3 + (c - r) % 7 for c in range(columns)) for r in range(rows))


class MadeTable(Table, unittest.TestCase):
    def test_lists_and_tuples_in_any_mix(self):
        wanted = ((0, 1, 9), (5, 5, 5))
        for given in (
            [[0, 1, 9], [5, 5, 5]],
            ((0, 1, 9), (5, 5, 5)),
            [(0, 1, 9), (5, 5, 5)],
            ([0, 1, 9], [5, 5, 5]),
            [[0, 1, 9], (5, 5, 5)],
            ((0, 1, 9), [5, 5, 5]),
        ):
            with self.subTest(given=given):
                self.assert_table(made_table(given), wanted)

    def test_least_and_greatest_sizes(self):
        for rows in (1, 2, 7, 8):
            for columns in (1, 2, 7, 8):
                wanted = tuple(tuple((r * columns + c) % 10 for c in range(columns)) for r in range(rows))
                with self.subTest(rows=rows, columns=columns):
                    self.assert_table(made_table([list(row) for row in wanted]), wanted)
                    self.assert_table(made_table(wanted), wanted)

    def test_each_word(self):
        for word in range(10):
            self.assert_table(made_table([[word]]), ((word,),))

    def test_given_stays_and_result_stays(self):
        given = [[1, 2], [3, 4]]
        before = copy.deepcopy(given)
        table = made_table(given)
        self.assertEqual(given, before)
        given[0][0] = 7
        given.append([5, 6])
        self.assert_table(table, ((1, 2), (3, 4)))
        self.assert_table(made_table(given), ((7, 2), (3, 4), (5, 6)))

    def test_wrong_whole(self):
        for given in (0, 1, "", "01", "01/10", {}, {0: [1]}, {(1,)}, None, True, False, 1.0, b"01", range(2),
                      iter([[1]]), (row for row in [[1]]), object(), list, frozenset([(1,)])):
            with self.subTest(given=given):
                self.assertRaises(NoTable, made_table, given)

    def test_wrong_number_of_rows(self):
        for given in ([], (), [[1]] * 9, ((1,),) * 9, [[1]] * 100):
            with self.subTest(given=given):
                self.assertRaises(NoTable, made_table, given)

    def test_wrong_number_of_words(self):
        for given in ([[]], ((),), [[], []], [(), [1]], [[1], []], [[1] * 9], ((1,) * 9, (1,) * 9),
                      [[1] * 8, [1] * 9]):
            with self.subTest(given=given):
                self.assertRaises(NoTable, made_table, given)

    def test_rows_of_unlike_lengths(self):
        for given in ([[1, 2], [1]], [[1], [1, 2]], ((1, 2), (1, 2), (1, 2, 3)), [[1] * 8, [1] * 8, [1] * 7]):
            with self.subTest(given=given):
                self.assertRaises(NoTable, made_table, given)

    def test_wrong_word_in_each_place(self):
        for wrong in NO_INTS + (-1, 10, -10, 100, 10 ** 40, -10 ** 40):
            for row in (0, 1):
                for column in (0, 1, 2):
                    given = [[1, 1, 1], [1, 1, 1]]
                    given[row][column] = wrong
                    with self.subTest(given=given):
                        self.assertRaises(NoTable, made_table, given)
                        self.assertRaises(NoTable, made_table, tuple(map(tuple, given)))

    def test_wrong_row_in_each_place(self):
        for wrong in (0, 1, "1", "12", None, True, {}, {0: 1, 1: 2}, {1, 2}, 1.0, b"12", range(2), iter([1, 2]),
                      object()):
            for place in (0, 1, 2):
                given = [[1, 2], [1, 2], [1, 2]]
                given[place] = wrong
                with self.subTest(given=given):
                    self.assertRaises(NoTable, made_table, given)

    def test_flat_list(self):
        self.assertRaises(NoTable, made_table, [1, 2])
        self.assertRaises(NoTable, made_table, (1, 2))

    def test_list_within_itself(self):
        given = []
        given.append(given)
        self.assertRaises(NoTable, made_table, given)


class Flipped(Table, unittest.TestCase):
    def test_columns_become_rows(self):
        self.assert_table(flipped(WIDE), ((0, 4, 8), (1, 5, 9), (2, 6, 0), (3, 7, 1)))

    def test_one_row_one_column_one_entry(self):
        self.assert_table(flipped(((1, 2, 3),)), ((1,), (2,), (3,)))
        self.assert_table(flipped(((1,), (2,), (3,))), ((1, 2, 3),))
        self.assert_table(flipped(((7,),)), ((7,),))

    def test_twice_is_the_table(self):
        for rows in range(1, 9):
            for columns in range(1, 9):
                table = numbered(rows, columns)
                self.assertEqual((len(flipped(table)), len(flipped(table)[0])), (columns, rows))
                self.assert_table(flipped(flipped(table)), table)


class Cut(Table, unittest.TestCase):
    def test_keeps_rows_and_columns_in_order(self):
        self.assert_table(cut(WIDE, 5, 9), ((0, 3), (8, 1)))
        self.assert_table(cut(WIDE, 6, 6), ((5, 6), (9, 0)))
        self.assert_table(cut(WIDE, 2, 1), ((4,),))
        self.assert_table(cut(WIDE, 4, 8), ((1,),))

    def test_all_cards(self):
        self.assert_table(cut(WIDE, 7, 15), WIDE)
        self.assert_table(cut(((3,),), 1, 1), ((3,),))
        great = numbered(8, 8)
        self.assert_table(cut(great, 255, 255), great)

    def test_every_pair_of_sets(self):
        for rows in range(1, 8):
            for columns in range(1, 16):
                wanted = tuple(
                    tuple(word for c, word in enumerate(row) if columns // 2 ** c % 2)
                    for r, row in enumerate(WIDE) if rows // 2 ** r % 2
                )
                self.assert_table(cut(WIDE, rows, columns), wanted)

    def test_sets_that_are_none_of_the_table(self):
        for wrong in NO_INTS + (0, -1, -2, -8, 16, 17, 31, 256, 10 ** 40, -10 ** 40):
            with self.subTest(wrong=wrong):
                self.assertRaises(NoCard, cut, WIDE, wrong, 1)
                self.assertRaises(NoCard, cut, WIDE, 1, wrong)
                self.assertRaises(NoCard, cut, WIDE, wrong, wrong)

    def test_each_set_is_held_to_its_own_side(self):
        for rows in (8, 9, 15):
            self.assertRaises(NoCard, cut, WIDE, rows, 15)
            self.assertRaises(NoCard, cut, flipped(WIDE), 15, rows)
        self.assert_table(cut(WIDE, 1, 8), ((3,),))
        self.assert_table(cut(flipped(WIDE), 8, 1), ((3,),))
        self.assertRaises(NoCard, cut, numbered(8, 8), 256, 255)
        self.assertRaises(NoCard, cut, numbered(8, 8), 255, 256)


class Kinds(Table, unittest.TestCase):
    def test_equal_rows_at_different_places(self):
        self.assert_new_lists(row_kinds, TWINS, [0, 1, 0, 3, 1])

    def test_equal_columns_at_different_places(self):
        self.assert_new_lists(column_kinds, TWINS, [0, 1, 2, 0])

    def test_exchanging_the_sides(self):
        self.assert_new_lists(column_kinds, flipped(TWINS), [0, 1, 0, 3, 1])
        self.assert_new_lists(row_kinds, flipped(TWINS), [0, 1, 2, 0])

    def test_none_equal_and_all_equal(self):
        self.assert_new_lists(row_kinds, WIDE, [0, 1, 2])
        self.assert_new_lists(column_kinds, WIDE, [0, 1, 2, 3])
        self.assert_new_lists(row_kinds, ((4, 4),) * 8, [0] * 8)
        self.assert_new_lists(column_kinds, ((4, 4),) * 8, [0, 0])
        self.assert_new_lists(row_kinds, ((4,),), [0])
        self.assert_new_lists(column_kinds, ((4,),), [0])

    def test_rows_alike_but_for_one_word(self):
        self.assert_new_lists(row_kinds, ((1, 2, 3), (1, 2, 4), (0, 2, 3), (1, 2, 3)), [0, 1, 2, 0])

    def test_trimmed(self):
        self.assert_table(trimmed(TWINS), ((1, 0, 2), (0, 0, 3), (9, 0, 2)))
        self.assert_table(trimmed(flipped(TWINS)), ((1, 0, 9), (0, 0, 0), (2, 3, 2)))
        self.assert_table(trimmed(WIDE), WIDE)
        self.assert_table(trimmed(((4, 4),) * 8), ((4,),))
        self.assert_table(trimmed(((0, 1), (0, 1), (1, 0))), ((0, 1), (1, 0)))

    def test_trimmed_again_is_the_same(self):
        self.assert_table(trimmed(trimmed(TWINS)), trimmed(TWINS))


class IsSmall(Table, unittest.TestCase):
    def assert_small(self, table, wanted):
        self.assertEqual((len(set(table)), len(set(zip(*table)))), (len(trimmed(table)), len(trimmed(table)[0])))
        self.assertIs(is_small(table), wanted)

    def test_five_and_six_kinds(self):
        self.assert_small(numbered(5, 5), True)
        self.assert_small(numbered(6, 5), False)
        self.assert_small(numbered(5, 6), False)
        self.assert_small(numbered(6, 6), False)
        self.assert_small(numbered(8, 8), False)

    def test_six_kinds_on_one_side_alone(self):
        table = tuple((word,) for word in range(6))
        self.assert_small(table[:5], True)
        self.assert_small(table, False)
        self.assert_small(flipped(table[:5]), True)
        self.assert_small(flipped(table), False)

    def test_eight_rows_and_columns_of_five_kinds(self):
        rows = numbered(5, 5)
        great = tuple(tuple(row) + tuple(row[:3]) for row in rows + rows[2:])
        self.assertEqual((len(great), len(great[0])), (8, 8))
        self.assert_small(great, True)

    def test_eight_rows_of_six_kinds(self):
        rows = numbered(6, 5)
        self.assert_small(rows + rows[:2], False)
        self.assert_small(flipped(rows + rows[:2]), False)

    def test_one_entry(self):
        self.assert_small(((0,),), True)


class WordsIn(Table, unittest.TestCase):
    def test_rising_each_once(self):
        self.assert_new_lists(words_in, ((9, 3, 3), (0, 9, 3)), [0, 3, 9])
        self.assert_new_lists(words_in, TWINS, [0, 1, 2, 3, 9])
        self.assert_new_lists(words_in, WIDE, list(range(10)))

    def test_one_word(self):
        for word in range(10):
            self.assert_new_lists(words_in, ((word,) * 8,) * 8, [word])


if __name__ == "__main__":
    unittest.main()
