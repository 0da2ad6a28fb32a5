import unittest

from talkleast.errors import NoCard
from talkleast.runs import ends_of, run, settles
from tests.helper import NO_CARDS, bushy, cards_of, chain

END = ("end", 4)
SMALL = ("ask", "row", 5, ("ask", "column", 2, ("end", 0), ("end", 1)), ("end", 1))
MIXED = ("ask", "column", 240, ("ask", "row", 129, ("ask", "column", 1, ("end", 2), ("end", 3)), ("end", 5)),
         ("ask", "column", 15, ("end", 6), ("end", 7)))
PLANS = (END, SMALL, MIXED, chain(12), chain(12, "column", False), bushy(31), bushy(300))


class Run(unittest.TestCase):
    def assert_run(self, plan, row, column, bits, word):
        found = run(plan, row, column)
        self.assertEqual(found, (bits, word))
        self.assertIs(type(found), tuple)
        self.assertIs(type(found[0]), list)
        for number in found[0] + [found[1]]:
            self.assertIs(type(number), int)

    def test_an_end_says_nothing(self):
        self.assert_run(END, 0, 0, [], 4)
        self.assert_run(END, 7, 7, [], 4)

    def test_bits_in_their_order_and_the_word(self):
        self.assert_run(SMALL, 0, 1, [1], 1)
        self.assert_run(SMALL, 2, 0, [1], 1)
        self.assert_run(SMALL, 1, 0, [0, 0], 0)
        self.assert_run(SMALL, 1, 1, [0, 1], 1)
        self.assert_run(SMALL, 3, 2, [0, 0], 0)
        self.assert_run(SMALL, 7, 7, [0, 0], 0)
        self.assert_run(MIXED, 0, 0, [0, 1], 5)
        self.assert_run(MIXED, 7, 3, [0, 1], 5)
        self.assert_run(MIXED, 1, 0, [0, 0, 1], 3)
        self.assert_run(MIXED, 1, 3, [0, 0, 0], 2)
        self.assert_run(MIXED, 0, 4, [1, 0], 6)
        self.assert_run(MIXED, 6, 7, [1, 0], 6)

    def test_each_side_looks_at_its_own_card(self):
        for cards in range(1, 256):
            for row in range(8):
                for column in range(8):
                    bit = int(row in cards_of(cards))
                    self.assertEqual(run(("ask", "row", cards, ("end", 0), ("end", 1)), row, column), ([bit], bit))
                    bit = int(column in cards_of(cards))
                    self.assertEqual(run(("ask", "column", cards, ("end", 0), ("end", 1)), row, column), ([bit], bit))

    def test_twelve_asks(self):
        always = ("end", 9)
        for number in range(12):
            always = ("ask", "row", 1, ("end", 0), always)
        self.assert_run(always, 0, 5, [1] * 12, 9)
        self.assert_run(always, 1, 5, [0], 0)

    def test_no_card(self):
        for wrong in NO_CARDS:
            for plan in (END, SMALL, MIXED):
                with self.subTest(wrong=wrong):
                    self.assertRaises(NoCard, run, plan, wrong, 0)
                    self.assertRaises(NoCard, run, plan, 0, wrong)
                    self.assertRaises(NoCard, run, plan, wrong, wrong)

    def test_each_call_has_a_list_of_its_own(self):
        for plan in (END, SMALL):
            first = run(plan, 1, 1)
            wanted = (list(first[0]), first[1])
            first[0].append("changed")
            self.assertEqual(run(plan, 1, 1), wanted)
            self.assertIsNot(run(plan, 1, 1)[0], run(plan, 1, 1)[0])


class EndsOf(unittest.TestCase):
    def assert_ends(self, plan, rows, columns, wanted):
        found = ends_of(plan, rows, columns)
        self.assertEqual(found, wanted)
        self.assertIs(type(found), list)
        for end in found:
            self.assertIs(type(end), tuple)
            for number in end:
                self.assertIs(type(number), int)

    def test_written_out(self):
        self.assert_ends(END, 6, 9, [(6, 9, 4)])
        self.assert_ends(SMALL, 7, 7, [(2, 5, 0), (2, 2, 1), (5, 7, 1)])
        self.assert_ends(SMALL, 255, 255, [(250, 253, 0), (250, 2, 1), (5, 255, 1)])

    def test_empty_sets_are_listed(self):
        self.assert_ends(SMALL, 5, 4, [(0, 4, 0), (0, 0, 1), (5, 4, 1)])
        self.assert_ends(SMALL, 2, 2, [(2, 0, 0), (2, 2, 1), (0, 2, 1)])
        self.assert_ends(MIXED, 1, 16,
                         [(0, 0, 2), (0, 0, 3), (1, 0, 5), (1, 16, 6), (1, 0, 7)])

    def test_no_rows_and_no_columns(self):
        self.assert_ends(END, 0, 0, [(0, 0, 4)])
        self.assert_ends(SMALL, 0, 7, [(0, 5, 0), (0, 2, 1), (0, 7, 1)])
        self.assert_ends(SMALL, 7, 0, [(2, 0, 0), (2, 0, 1), (5, 0, 1)])
        self.assert_ends(SMALL, 0, 0, [(0, 0, 0), (0, 0, 1), (0, 0, 1)])

    def test_no_ahead_of_yes(self):
        plan = ("ask", "row", 1, ("ask", "row", 2, ("end", 0), ("end", 1)), ("ask", "row", 4, ("end", 2), ("end", 3)))
        self.assert_ends(plan, 15, 1, [(12, 1, 0), (2, 1, 1), (1, 1, 2), (0, 1, 3)])

    def test_each_pair_is_in_just_the_end_that_run_reaches(self):
        for plan in PLANS:
            for rows, columns in ((255, 255), (1, 128), (0, 255), (90, 60), (7, 31), (255, 1)):
                ends = ends_of(plan, rows, columns)
                for row in range(8):
                    for column in range(8):
                        with_it = [end for end in ends if row in cards_of(end[0]) and column in cards_of(end[1])]
                        if row in cards_of(rows) and column in cards_of(columns):
                            self.assertEqual([end[2] for end in with_it], [run(plan, row, column)[1]])
                        else:
                            self.assertEqual(with_it, [])

    def test_one_for_each_end(self):
        for plan, ends in ((END, 1), (SMALL, 3), (MIXED, 5), (chain(12), 13), (bushy(300), 301)):
            for cards in (0, 1, 255):
                self.assertEqual(len(ends_of(plan, cards, cards)), ends)

    def test_each_call_has_a_list_of_its_own(self):
        for plan in (END, SMALL):
            first = ends_of(plan, 3, 3)
            wanted = list(first)
            first.append("changed")
            self.assertEqual(ends_of(plan, 3, 3), wanted)


class Settles(unittest.TestCase):
    def test_plans_that_do(self):
        self.assertIs(settles(END, ((4,),)), True)
        self.assertIs(settles(END, ((4,) * 8,) * 8), True)
        self.assertIs(settles(SMALL, ((1, 1, 1), (0, 1, 0), (1, 1, 1), (0, 1, 0))), True)
        self.assertIs(settles(SMALL, ((1, 1), (0, 1))), True)

    def test_plans_that_do_not(self):
        self.assertIs(settles(END, ((3,),)), False)
        self.assertIs(settles(SMALL, ((0, 1), (0, 1))), False)

    def test_one_wrong_entry_in_each_place(self):
        for plan in PLANS:
            table = [[run(plan, row, column)[1] for column in range(8)] for row in range(8)]
            self.assertIs(settles(plan, tuple(map(tuple, table))), True)
            for row in range(8):
                for column in range(8):
                    table[row][column] = (table[row][column] + 1) % 10
                    self.assertIs(settles(plan, tuple(map(tuple, table))), False)
                    table[row][column] = (table[row][column] - 1) % 10

    def test_rows_and_columns_are_not_mixed_up(self):
        by_row = ("ask", "row", 2, ("end", 0), ("end", 1))
        self.assertIs(settles(by_row, ((0, 0, 0), (1, 1, 1))), True)
        self.assertIs(settles(by_row, ((0, 1), (0, 1), (0, 1))), False)

    def test_tables_and_plans_somewhat_beyond_are_not_refused(self):
        self.assertIs(settles(("ask", "row", 256, ("end", 0), ("end", 1)), ((0,),) * 8 + ((1,),)), True)


if __name__ == "__main__":
    unittest.main()
