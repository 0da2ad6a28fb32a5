import unittest

from talkleast.errors import NoPlan
from talkleast.plans import bits_of, flipped_plan, made_plan, outcomes_of
from talkleast.runs import run
from tests.helper import NO_INTS, bushy, chain

END = ("end", 4)
SMALL = ("ask", "row", 5, ("ask", "column", 2, ("end", 0), ("end", 1)), ("end", 1))
LEFT = ("ask", "column", 255, ("ask", "row", 1, ("ask", "row", 128, END, ("end", 0)), END), ("end", 9))

NO_PLANS = NO_INTS + (
    0, 1, -1, 10 ** 40, "end", "ask", "row", (), ("end",), ("ask",), ("end", 1, 1), ("ask", 1), (END,), (END, END), (1, 1),
    ["end", 1], ["ask", "row", 1, END, END], {"end": 1}, (("end", 1), 1),
    ("End", 1), ("END", 1), ("", 1), ("word", 1), ("ask", 1), (b"end", 1), (None, 1), (0, 1), (["end"], 1), (("end",), 1),
    ("end", -1), ("end", 10), ("end", 10 ** 40), ("end", ("end", 1)),
    ("ask", "row", 1, END), ("ask", "row", 1, END, END, END), ("ask", "row", 1), ("ask", "row", END, END),
    ("end", "row", 1, END, END), ("Ask", "row", 1, END, END), (None, "row", 1, END, END), (1, "row", 1, END, END),
    ("ask", "Row", 1, END, END), ("ask", "rows", 1, END, END), ("ask", "", 1, END, END), ("ask", "r", 1, END, END),
    ("ask", None, 1, END, END), ("ask", 0, 1, END, END), ("ask", True, 1, END, END), ("ask", ["row"], 1, END, END),
    ("ask", ("row",), 1, END, END), ("ask", "both", 1, END, END), ("ask", "row column", 1, END, END),
    ("ask", "row", 0, END, END), ("ask", "row", -1, END, END), ("ask", "row", 256, END, END),
    ("ask", "column", 0, END, END), ("ask", "column", 256, END, END), ("ask", "column", 511, END, END),
    ("ask", 1, "row", END, END),
) + tuple(("end", wrong) for wrong in NO_INTS) + tuple(("ask", "column", wrong, END, END) for wrong in NO_INTS)


class MadePlan(unittest.TestCase):
    def assert_made(self, plan):
        self.assertIs(made_plan(plan), plan)

    def assert_none(self, thing):
        self.assertRaises(NoPlan, made_plan, thing)

    def test_ends_of_each_word(self):
        for word in range(10):
            self.assert_made(("end", word))

    def test_asks_of_either_side_with_each_set(self):
        for cards in range(1, 256):
            self.assert_made(("ask", "row", cards, END, END))
            self.assert_made(("ask", "column", cards, END, ("end", 0)))

    def test_nested_asks(self):
        self.assert_made(SMALL)
        self.assert_made(LEFT)
        self.assert_made(("ask", "row", 7, SMALL, LEFT))
        self.assertEqual(made_plan(SMALL), ("ask", "row", 5, ("ask", "column", 2, ("end", 0), ("end", 1)), ("end", 1)))

    def test_twelve_one_within_another(self):
        for side in ("row", "column"):
            for yes in (True, False):
                for asks in (1, 11, 12):
                    self.assert_made(chain(asks, side, yes))
                for asks in (13, 14, 20, 49):
                    self.assert_none(chain(asks, side, yes))

    def test_thirteen_to_and_fro(self):
        plan = END
        for number in range(12):
            plan = ("ask", "row", 3, plan, END) if number % 2 else ("ask", "column", 3, END, plan)
        self.assert_made(plan)
        self.assert_none(("ask", "row", 3, plan, END))
        self.assert_none(("ask", "row", 3, END, plan))

    def test_three_hundred_in_all(self):
        for asks in (0, 1, 2, 255, 299, 300):
            self.assert_made(bushy(asks))
        for asks in (301, 302, 511, 1000):
            self.assert_none(bushy(asks))

    def test_three_hundred_by_either_way_on(self):
        for one, other in ((299, 0), (0, 299), (150, 149), (200, 99)):
            self.assert_made(("ask", "row", 1, bushy(one), bushy(other)))
            self.assert_none(("ask", "row", 1, bushy(one + 1), bushy(other)))
            self.assert_none(("ask", "row", 1, bushy(one), bushy(other + 1)))

    def test_the_same_tuple_on_both_ways_on(self):
        plan = END
        for number in range(8):
            plan = ("ask", "row", 1, plan, plan)
        self.assert_made(plan)
        for number in range(40):
            plan = ("ask", "row", 1, plan, plan)
            self.assert_none(plan)

    def test_no_plan_at_the_top(self):
        for thing in NO_PLANS:
            with self.subTest(thing=thing):
                self.assert_none(thing)

    def test_no_plan_below_an_ask(self):
        for thing in NO_PLANS:
            with self.subTest(thing=thing):
                self.assert_none(("ask", "row", 1, thing, END))
                self.assert_none(("ask", "column", 1, END, thing))
                self.assert_none(("ask", "row", 1, thing, thing))
                self.assert_none(("ask", "row", 1, END, ("ask", "column", 6, END, ("ask", "row", 255, thing, SMALL))))

    def test_nested_fifty_deep(self):
        thing = 1
        other = []
        for number in range(49):
            thing = (thing,)
            other = [other]
        self.assert_none(thing)
        self.assert_none(other)
        self.assert_none(("end", thing))

    def test_odd_values_that_equal_all(self):
        class Anything:
            def __eq__(self, other):
                return True

        class Nothing:
            def __eq__(self, other):
                raise RuntimeError

        for odd in (Anything(), Nothing()):
            for thing in (odd, (odd, 1), ("end", odd), ("ask", odd, 1, END, END), (odd, "row", 1, END, END),
                          ("ask", "row", odd, END, END), ("ask", "row", 1, odd, END)):
                self.assert_none(thing)


class Counts(unittest.TestCase):
    def assert_counts(self, plan, bits, outcomes):
        self.assertEqual((bits_of(plan), outcomes_of(plan)), (bits, outcomes))
        self.assertIs(type(bits_of(plan)), int)
        self.assertIs(type(outcomes_of(plan)), int)

    def test_written_out(self):
        self.assert_counts(END, 0, 1)
        self.assert_counts(("ask", "row", 1, END, END), 1, 2)
        self.assert_counts(SMALL, 2, 3)
        self.assert_counts(("ask", "row", 5, ("end", 1), SMALL), 3, 4)
        self.assert_counts(LEFT, 3, 4)
        self.assert_counts(("ask", "row", 1, SMALL, SMALL), 3, 6)
        self.assert_counts(("ask", "row", 1, SMALL, LEFT), 4, 7)
        self.assert_counts(("ask", "row", 1, LEFT, SMALL), 4, 7)

    def test_ends_with_one_word_count_each(self):
        self.assert_counts(("ask", "column", 1, END, ("ask", "column", 1, END, END)), 2, 3)

    def test_greatest_plans(self):
        self.assert_counts(chain(12), 12, 13)
        self.assert_counts(chain(12, "column", False), 12, 13)
        self.assert_counts(bushy(300), 9, 301)
        self.assert_counts(bushy(255), 8, 256)

    def test_plans_somewhat_beyond_are_not_refused(self):
        self.assert_counts(chain(13), 13, 14)
        self.assert_counts(bushy(301), 9, 302)


class FlippedPlan(unittest.TestCase):
    def test_written_out(self):
        self.assertEqual(flipped_plan(END), END)
        self.assertEqual(flipped_plan(SMALL),
                         ("ask", "column", 5, ("ask", "row", 2, ("end", 0), ("end", 1)), ("end", 1)))

    def test_twice_is_the_plan(self):
        for plan in (END, SMALL, LEFT, chain(12), chain(12, "column", False), bushy(300)):
            self.assertEqual(flipped_plan(flipped_plan(plan)), plan)
            self.assertIs(type(flipped_plan(plan)), tuple)
            made_plan(flipped_plan(plan))

    def test_says_and_reaches_the_same_with_row_and_column_exchanged(self):
        for plan in (END, SMALL, LEFT, chain(12), bushy(300), ("ask", "column", 9, LEFT, SMALL)):
            turned = flipped_plan(plan)
            self.assertEqual((bits_of(turned), outcomes_of(turned)), (bits_of(plan), outcomes_of(plan)))
            for row in range(8):
                for column in range(8):
                    self.assertEqual(run(turned, column, row), run(plan, row, column))


if __name__ == "__main__":
    unittest.main()
