import unittest

from talkleast.errors import NoTable
from talkleast.named import alike, less, pick, shared, sums
from talkleast.tables import made_table
from tests.helper import NO_INTS, Table

SIZES = range(1, 9)


class Named(Table, unittest.TestCase):
    def assert_made(self, found, rows, columns, rule):
        wanted = tuple(tuple(rule(r, c) for c in range(columns)) for r in range(rows))
        self.assert_table(found, wanted)
        self.assertEqual(made_table(found), wanted)

    def assert_refused(self, function, numbers, too_many):
        """Each number in turn is wrong, the others being right."""
        for place, beyond in enumerate(too_many):
            for wrong in NO_INTS + (0, -1, -3, beyond, beyond + 1, -10 ** 40):
                given = list(numbers)
                given[place] = wrong
                with self.subTest(function=function.__name__, given=given):
                    self.assertRaises(NoTable, function, *given)
        function(*numbers)


class Alike(Named):
    def test_written_out(self):
        self.assert_table(alike(1), ((1,),))
        self.assert_table(alike(3), ((1, 0, 0), (0, 1, 0), (0, 0, 1)))

    def test_every_size(self):
        for n in SIZES:
            self.assert_made(alike(n), n, n, lambda r, c: int(r == c))

    def test_refused(self):
        self.assert_refused(alike, (3,), (9,))


class Less(Named):
    def test_written_out(self):
        self.assert_table(less(1, 1), ((0,),))
        self.assert_table(less(2, 3), ((0, 1, 1), (0, 0, 1)))
        self.assert_table(less(3, 2), ((0, 1), (0, 0), (0, 0)))

    def test_every_size(self):
        for n in SIZES:
            for m in SIZES:
                self.assert_made(less(n, m), n, m, lambda r, c: int(r < c))

    def test_refused(self):
        self.assert_refused(less, (3, 4), (9, 9))


class Sums(Named):
    def test_written_out(self):
        self.assert_table(sums(1, 1, 2), ((0,),))
        self.assert_table(sums(2, 4, 3), ((0, 1, 2, 0), (1, 2, 0, 1)))
        self.assert_table(sums(3, 2, 10), ((0, 1), (1, 2), (2, 3)))

    def test_every_size_and_every_k(self):
        for n in SIZES:
            for m in SIZES:
                for k in range(2, 11):
                    self.assert_made(sums(n, m, k), n, m, lambda r, c: (r + c) % k)

    def test_without_k(self):
        self.assert_table(sums(2, 3), ((0, 1, 0), (1, 0, 1)))
        for n in SIZES:
            for m in SIZES:
                self.assert_table(sums(n, m), sums(n, m, 2))

    def test_k_by_its_name(self):
        self.assert_table(sums(n=2, m=2, k=3), ((0, 1), (1, 2)))

    def test_refused(self):
        self.assert_refused(sums, (3, 4, 5), (9, 9, 11))
        self.assertRaises(NoTable, sums, 3, 4, 1)
        self.assertRaises(NoTable, sums, 9, 4)
        self.assertRaises(NoTable, sums, 3, 0)


class Shared(Named):
    def test_written_out(self):
        self.assert_table(shared(1), ((0, 0), (0, 1)))
        self.assert_table(shared(2), ((0, 0, 0, 0), (0, 1, 0, 1), (0, 0, 1, 1), (0, 1, 1, 2)))

    def test_every_size(self):
        for n in (1, 2, 3):
            self.assert_made(shared(n), 2 ** n, 2 ** n, lambda r, c: bin(r & c).count("1"))

    def test_refused(self):
        self.assert_refused(shared, (2,), (4,))


class Pick(Named):
    def test_written_out(self):
        self.assert_table(pick(1), ((0, 1),))
        self.assert_table(pick(2), ((0, 1, 0, 1), (0, 0, 1, 1)))
        self.assert_table(pick(3), ((0, 1, 0, 1, 0, 1, 0, 1), (0, 0, 1, 1, 0, 0, 1, 1), (0, 0, 0, 0, 1, 1, 1, 1)))

    def test_refused(self):
        self.assert_refused(pick, (2,), (4,))


if __name__ == "__main__":
    unittest.main()
