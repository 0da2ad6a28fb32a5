import itertools
import unittest

from talkleast.blocks import is_block, widest
from talkleast.covers import cover_paper, fewest_cover
from talkleast.errors import TooGreat
from talkleast.named import alike, less, sums
from talkleast.tables import flipped, words_in
from tests.helper import entries_of, great_tables, greatest_small, small_tables, within


class FewestCover(unittest.TestCase):
    def test_how_many_by_hand(self):
        for table, word, count in (
            (((4,),), 4, 1), (((4,) * 8,) * 8, 4, 1), (alike(2), 0, 2), (alike(2), 1, 2), (alike(3), 1, 3),
            (alike(3), 0, 3), (alike(4), 0, 4), (alike(5), 1, 5), (alike(5), 0, 4), (less(3, 3), 1, 2), (less(3, 3), 0, 3),
            (((0, 0), (0, 1)), 0, 2), (((0, 0), (0, 1)), 1, 1), (sums(8, 8), 0, 2), (sums(5, 5, 5), 3, 5),
        ):
            with self.subTest(table=table, word=word):
                self.assertEqual(len(fewest_cover(table, word)), count)

    def test_widest_blocks_that_contain_all_entries(self):
        for table in small_tables():
            for word in words_in(table):
                with self.subTest(table=table, word=word):
                    cover = fewest_cover(table, word)
                    self.assertIs(type(cover), list)
                    for block in cover:
                        self.assertIs(type(block), tuple)
                        self.assertIs(is_block(table, block[0], block[1]), True)
                        self.assertIn(block, widest(table, word))
                    covered = set().union(*[within(block) for block in cover])
                    self.assertEqual(covered, entries_of(table, word))
                    self.assertEqual(len(set(cover)), len(cover))

    def test_one_fewer_does_not_cover(self):
        for table in small_tables():
            for word in words_in(table):
                entries = entries_of(table, word)
                sets = [within(block) for block in widest(table, word)]
                fewer = len(fewest_cover(table, word)) - 1
                with self.subTest(table=table, word=word):
                    for some in itertools.combinations(sets, min(fewer, len(sets))):
                        self.assertNotEqual(set().union(*some), entries)

    def test_a_word_that_no_entry_has(self):
        for table in (((0,),), alike(5), less(8, 5), ((6,) * 8,) * 8):
            for word in (2, 9):
                first = fewest_cover(table, word)
                self.assertEqual(first, [])
                first.append("changed")
                self.assertEqual(fewest_cover(table, word), [])

    def test_each_call_has_a_list_of_its_own(self):
        first = fewest_cover(alike(3), 0)
        wanted = list(first)
        first.append("changed")
        self.assertEqual(fewest_cover(alike(3), 0), wanted)

    def test_sides_exchanged(self):
        for table in small_tables():
            for word in words_in(table):
                self.assertEqual(len(fewest_cover(flipped(table), word)), len(fewest_cover(table, word)))


class CoverPaper(unittest.TestCase):
    def assert_case(self, case, table, word, bare, most):
        self.assertIs(type(case), tuple)
        self.assertEqual(len(case), 3)
        row, column, cases = case
        self.assertIs(type(row), int)
        self.assertIs(type(column), int)
        self.assertIn((row, column), bare)
        self.assertIs(type(cases), list)
        if most == 0:
            self.assertEqual(cases, [])
            return
        blocks = [block for block in widest(table, word) if (row, column) in within(block)]
        self.assertEqual(len(cases), len(blocks))
        for block, inner in zip(blocks, cases):
            self.assert_case(inner, table, word, bare - within(block), most - 1)

    def test_each_paper(self):
        for table in small_tables():
            for word in words_in(table):
                with self.subTest(table=table, word=word):
                    paper = cover_paper(table, word)
                    self.assert_case(paper, table, word, entries_of(table, word), len(fewest_cover(table, word)) - 1)
                    self.assertEqual(cover_paper(table, word), paper)

    def test_written_out(self):
        self.assertEqual(cover_paper(((4,),), 4), (0, 0, []))
        self.assertEqual(cover_paper(((0, 4), (0, 0)), 4), (0, 1, []))
        self.assertIn(cover_paper(alike(2), 1), ((0, 0, [(1, 1, [])]), (1, 1, [(0, 0, [])])))
        self.assertIn(cover_paper(((0, 0), (0, 1)), 0), ((0, 1, [(1, 0, [])]), (1, 0, [(0, 1, [])])))

    def test_lists_within_are_not_shared(self):
        def lists(case):
            return [case[2]] + [inner for further in case[2] for inner in lists(further)]

        for table in (alike(5), greatest_small(2, 1)[0]):
            paper = cover_paper(table, 0)
            wanted = cover_paper(table, 0)
            found = lists(paper)
            self.assertEqual(len({id(one) for one in found}), len(found))
            for one in found:
                one.append("changed")
            self.assertEqual(cover_paper(table, 0), wanted)

    def test_a_word_that_no_entry_has(self):
        for table in (((0,),), alike(5), less(8, 5), ((6,) * 8,) * 8):
            for word in (2, 9):
                self.assertIsNone(cover_paper(table, word))


class Great(unittest.TestCase):
    def test_too_great_whatever_the_word(self):
        for table in great_tables():
            for word in range(10):
                with self.subTest(table=table, word=word):
                    self.assertRaises(TooGreat, fewest_cover, table, word)
                    self.assertRaises(TooGreat, cover_paper, table, word)


if __name__ == "__main__":
    unittest.main()
