import unittest

from talkleast.alone import alone_bits, codes, heard, third, told_apart
from talkleast.errors import NoCard, NoCode
from talkleast.named import alike, less, pick, shared, sums
from talkleast.tables import flipped
from tests.helper import NO_CARDS, NO_INTS, great_tables, greatest_small, grown, scrambled

TABLE = ((1, 0, 1, 2), (0, 0, 0, 3), (1, 0, 1, 2))
NO_CODES = ([2], [-1], [2, 0], [0, 2], [0, -1], [0] * 9, [1] * 9, [10 ** 40])


def tables():
    found = [alike(n) for n in range(1, 9)] + [less(8, 8), less(3, 7), sums(8, 8, 3), shared(3), pick(3), TABLE]
    found += [scrambled(rows, columns, 3, 2) for rows in (1, 2, 3, 5, 8) for columns in (1, 2, 4, 6, 8)]
    found += [grown(scrambled(4, 3, 2, seed), (0, 0, 1, 1, 2, 0, 3, 2), (2, 2, 1, 0, 1)) for seed in range(3)]
    return found + greatest_small(2, 3) + list(great_tables()) + [((5,) * 8,) * 8]


def lines_of(table, side):
    return table if side == "row" else tuple(zip(*table))


def codes_after_the_words(lines):
    kinds = list(dict.fromkeys(lines))
    length = 0
    while 2 ** length < len(kinds):
        length += 1
    return [[int(sign) for sign in format(kinds.index(line), f"0{length}b")] if length else [] for line in lines]


class Codes(unittest.TestCase):
    def assert_codes(self, table, side, wanted):
        found = codes(table, side)
        self.assertEqual(found, wanted)
        self.assertIs(type(found), list)
        for code in found:
            self.assertIs(type(code), list)
            for bit in code:
                self.assertIs(type(bit), int)
        self.assertEqual(alone_bits(table, side), len(wanted[0]))

    def test_by_hand(self):
        self.assert_codes(TABLE, "row", [[0], [1], [0]])
        self.assert_codes(TABLE, "column", [[0, 0], [0, 1], [0, 0], [1, 0]])
        self.assert_codes(alike(3), "row", [[0, 0], [0, 1], [1, 0]])
        self.assert_codes(alike(4), "column", [[0, 0], [0, 1], [1, 0], [1, 1]])
        self.assert_codes(alike(5), "row", [[0, 0, 0], [0, 0, 1], [0, 1, 0], [0, 1, 1], [1, 0, 0]])

    def test_one_kind(self):
        self.assert_codes(((4,),), "row", [[]])
        self.assert_codes(((4,),), "column", [[]])
        self.assert_codes(((4, 5),) * 3, "row", [[], [], []])
        self.assert_codes(((4, 5),) * 3, "column", [[0], [1]])

    def test_after_the_words_of_the_document(self):
        for table in tables():
            for side in ("row", "column"):
                with self.subTest(table=table, side=side):
                    self.assert_codes(table, side, codes_after_the_words(lines_of(table, side)))

    def test_lengths(self):
        for kinds, length in ((1, 0), (2, 1), (3, 2), (4, 2), (5, 3), (6, 3), (7, 3), (8, 3)):
            table = tuple((word, 0) for word in range(kinds))
            self.assertEqual(alone_bits(table, "row"), length)
            self.assertEqual(alone_bits(flipped(table), "column"), length)

    def test_alone_bits_without_the_side(self):
        for table in tables():
            self.assertEqual(alone_bits(table), len(codes(table, "row")[0]))
            self.assertIs(type(alone_bits(table)), int)
        self.assertEqual(alone_bits(TABLE), 1)
        self.assertEqual(alone_bits(TABLE, "column"), 2)
        self.assertEqual(alone_bits(table=TABLE, side="column"), 2)

    def test_sides_exchanged(self):
        for table in tables():
            self.assertEqual(codes(flipped(table), "row"), codes(table, "column"))
            self.assertEqual(codes(flipped(table), "column"), codes(table, "row"))

    def test_no_list_is_shared(self):
        for side in ("row", "column"):
            first = codes(TABLE, side)
            self.assertEqual(len({id(code) for code in first}), len(first))
            wanted = [list(code) for code in first]
            first[0].append("changed")
            self.assertEqual(first[1:], wanted[1:])
            first.append("changed")
            self.assertEqual(codes(TABLE, side), wanted)


class Heard(unittest.TestCase):
    def test_by_hand(self):
        self.assertEqual(heard(TABLE, "row", [0], 3), 2)
        self.assertEqual(heard(TABLE, "row", [1], 3), 3)
        self.assertEqual(heard(TABLE, "column", [1, 0], 1), 3)
        self.assertEqual(heard(TABLE, "column", [0, 1], 0), 0)
        self.assertEqual(heard(((4, 5),) * 3, "row", [], 1), 5)

    def test_each_row_and_column(self):
        for table in tables():
            for row, words in enumerate(table):
                for column, word in enumerate(words):
                    self.assertEqual(heard(table, "row", codes(table, "row")[row], column), word)
                    self.assertEqual(heard(table, "column", codes(table, "column")[column], row), word)

    def test_no_code(self):
        for code in NO_CODES + ([], [0, 0], [0, 1], [1, 0], [1, 1], [0, 0, 0]):
            self.assertRaises(NoCode, heard, TABLE, "row", code, 0)
        for code in NO_CODES + ([], [0], [1], [1, 1], [0, 0, 0], [0, 0, 1], [1, 0, 0]):
            self.assertRaises(NoCode, heard, TABLE, "column", code, 0)
        for code in NO_CODES + ([0], [1]):
            self.assertRaises(NoCode, heard, ((4, 5),) * 3, "row", code, 0)
        self.assertRaises(NoCode, heard, alike(3), "row", [1, 1], 0)
        self.assertRaises(NoCode, heard, alike(5), "row", [1, 0, 1], 0)

    def test_no_card(self):
        for wrong in NO_CARDS + (4, 5):
            with self.subTest(wrong=wrong):
                self.assertRaises(NoCard, heard, TABLE, "row", [0], wrong)
                self.assertRaises(NoCard, heard, TABLE, "column", [0, 0], wrong)
        self.assertRaises(NoCard, heard, TABLE, "column", [0, 0], 3)
        self.assertEqual(heard(TABLE, "row", [0], 3), 2)

    def test_both_wrong(self):
        for wrong in NO_INTS + (-1, 4, 8):
            self.assertRaises(NoCode, heard, TABLE, "row", [0, 0], wrong)
            self.assertRaises(NoCode, heard, TABLE, "column", [0], wrong)

    def test_arguments_stay(self):
        code = [0, 1]
        heard(TABLE, "column", code, 0)
        self.assertEqual(code, [0, 1])


class Third(unittest.TestCase):
    def test_by_hand(self):
        self.assertEqual(third(TABLE, [1], [1, 0]), 3)
        self.assertEqual(third(TABLE, [0], [1, 0]), 2)
        self.assertEqual(third(TABLE, [0], [0, 1]), 0)
        self.assertEqual(third(((6,),), [], []), 6)

    def test_each_row_and_column(self):
        for table in tables():
            for row, words in enumerate(table):
                for column, word in enumerate(words):
                    self.assertEqual(third(table, codes(table, "row")[row], codes(table, "column")[column]), word)

    def test_no_code(self):
        for code in NO_CODES + ([], [0, 0], [0, 1], [1, 0]):
            self.assertRaises(NoCode, third, TABLE, code, [0, 0])
        for code in NO_CODES + ([], [0], [1], [1, 1], [0, 0, 0]):
            self.assertRaises(NoCode, third, TABLE, [0], code)
        self.assertRaises(NoCode, third, TABLE, [0, 0], [0])
        self.assertRaises(NoCode, third, TABLE, [], [])


class ToldApart(unittest.TestCase):
    def test_by_hand(self):
        self.assertEqual(told_apart(TABLE, "row", 0, 1), 0)
        self.assertEqual(told_apart(TABLE, "row", 1, 2), 0)
        self.assertIsNone(told_apart(TABLE, "row", 0, 2))
        self.assertEqual(told_apart(TABLE, "column", 0, 1), 0)
        self.assertIsNone(told_apart(TABLE, "column", 0, 2))
        self.assertEqual(told_apart(((0, 1, 2), (0, 1, 3)), "row", 0, 1), 2)
        self.assertEqual(told_apart(((0, 0), (1, 1), (2, 3)), "column", 1, 0), 2)

    def test_each_two_cards(self):
        for table in tables():
            for side in ("row", "column"):
                lines = lines_of(table, side)
                for one in range(len(lines)):
                    for other in range(len(lines)):
                        cards = [card for card in range(len(lines[0])) if lines[one][card] != lines[other][card]]
                        self.assertEqual(told_apart(table, side, one, other), cards[0] if cards else None)

    def test_the_same_card(self):
        for card in range(3):
            self.assertIsNone(told_apart(TABLE, "row", card, card))

    def test_no_card(self):
        for wrong in NO_CARDS + (4,):
            for side in ("row", "column"):
                with self.subTest(wrong=wrong, side=side):
                    self.assertRaises(NoCard, told_apart, TABLE, side, wrong, 0)
                    self.assertRaises(NoCard, told_apart, TABLE, side, 0, wrong)
                    self.assertRaises(NoCard, told_apart, TABLE, side, wrong, wrong)
        self.assertRaises(NoCard, told_apart, TABLE, "row", 3, 0)
        self.assertRaises(NoCard, told_apart, TABLE, "row", 0, 3)
        self.assertEqual(told_apart(TABLE, "column", 3, 0), 0)


if __name__ == "__main__":
    unittest.main()
