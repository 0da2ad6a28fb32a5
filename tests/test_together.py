import unittest

from talkleast.errors import NoWord, TooGreat
from talkleast.named import alike, less, sums
from talkleast.tables import made_table
from talkleast.together import together
from tests.helper import Table, scrambled

RULES = {"pair": (2, lambda a, b: 3 * a + b), "times": (3, lambda a, b: a * b), "parity": (9, lambda a, b: (a + b) % 2)}


class Together(Table, unittest.TestCase):
    def test_written_out(self):
        one = ((0, 1), (2, 0))
        other = ((1, 2),)
        self.assert_table(together(one, other, "pair"), ((1, 2, 4, 5), (7, 8, 1, 2)))
        self.assert_table(together(one, other, "times"), ((0, 0, 1, 2), (2, 4, 0, 0)))
        self.assert_table(together(one, other, "parity"), ((1, 0, 0, 1), (1, 0, 1, 0)))
        self.assert_table(together(other, one, "pair"), ((3, 4, 6, 7), (5, 3, 8, 6)))
        self.assert_table(together(((0,), (1,)), ((0,), (1,), (2,)), "pair"), ((0,), (1,), (2,), (3,), (4,), (5,)))

    def test_each_pair_of_words(self):
        for rule in RULES:
            most, joined = RULES[rule]
            for a in range(10):
                for b in range(10):
                    with self.subTest(rule=rule, a=a, b=b):
                        if max(a, b) <= most:
                            self.assert_table(together(((a,),), ((b,),), rule), ((joined(a, b),),))
                        else:
                            self.assertRaises(NoWord, together, ((a,),), ((b,),), rule)

    def test_each_size_up_to_eight(self):
        for rule in RULES:
            most, joined = RULES[rule]
            for rows, more_rows in ((1, 1), (1, 8), (8, 1), (2, 4), (4, 2), (2, 3), (3, 2)):
                for columns, more_columns in ((1, 1), (1, 8), (8, 1), (2, 4), (4, 2), (2, 2), (7, 1)):
                    one = scrambled(rows, columns, most + 1, 1)
                    other = scrambled(more_rows, more_columns, most + 1, 2)
                    found = together(one, other, rule)
                    self.assertEqual((len(found), len(found[0])), (rows * more_rows, columns * more_columns))
                    wanted = [[None] * (columns * more_columns) for row in range(rows * more_rows)]
                    for r in range(rows):
                        for s in range(more_rows):
                            for c in range(columns):
                                for d in range(more_columns):
                                    wanted[r * more_rows + s][c * more_columns + d] = joined(one[r][c], other[s][d])
                    self.assert_table(found, tuple(map(tuple, wanted)))
                    made_table(found)

    def test_too_great(self):
        for rule in RULES:
            for one, other in ((sums(3, 1), sums(3, 1)), (sums(1, 3), sums(1, 3)), (alike(3), alike(3)), (sums(8, 1), sums(2, 1)),
                               (sums(1, 2), sums(1, 8)), (less(8, 8), less(8, 8)), (sums(2, 5), sums(2, 2)),
                               (sums(5, 2), sums(2, 2)), (sums(1, 8), sums(8, 2))):
                with self.subTest(rule=rule, one=one, other=other):
                    self.assertRaises(TooGreat, together, one, other, rule)

    def test_a_word_beyond_in_either_table(self):
        for rule, word in (("pair", 3), ("pair", 9), ("times", 4), ("times", 9)):
            beyond = ((0, 0), (0, word))
            self.assertRaises(NoWord, together, beyond, alike(2), rule)
            self.assertRaises(NoWord, together, alike(2), beyond, rule)
            self.assertRaises(NoWord, together, beyond, beyond, rule)

    def test_both_wrong(self):
        for rule in ("pair", "times"):
            beyond = ((9,) * 3,) * 3
            for one, other in ((beyond, beyond), (beyond, alike(3)), (alike(3), beyond), (((9,),) * 5, ((0,),) * 2)):
                self.assertRaises(TooGreat, together, one, other, rule)


if __name__ == "__main__":
    unittest.main()
