import unittest

from talkleast.alone import alone_bits
from talkleast.apart import apart
from talkleast.asks import ask
from talkleast.covers import fewest_cover
from talkleast.errors import NoAsk, NoCard, NoText, TooGreat
from talkleast.least import fewest_ends, least_bits, least_plan
from talkleast.plans import bits_of
from talkleast.ranks import rank
from talkleast.runs import run, settles
from talkleast.tables import trimmed
from talkleast.texts import read_plan, read_table, show_plan, show_table
from talkleast.twos import rank_in_twos
from tests.helper import NO_INTS, greatest_small, scrambled

OF_TABLE = ("show", "trim", "bits", "ends", "rank", "twos", "alone", "plan")
WITH_WORD = ("cover", "apart")
OF_SMALL = ("bits", "ends", "plan")
NO_TABLES = ("", "/", "01/1", "a", "alike", "alike:9", "alike:04", "r0(0,1)", "0\n", "01/10\n", "sums:3:3", "000000000")
NO_PLANS = ("", "r0", "r(0,1)", "r8(0,1)", "r0(0,1)\n", "01/10", "alike:3", "r10(0,1)", "10")
NO_DIGITS = ("", "00", "10", "a", "-", "-1", "+", "/", "0\n", "\n", "~", "x", "1.")


class Answers(unittest.TestCase):
    def assert_answer(self, question, wanted):
        found = ask(question)
        self.assertEqual(found, wanted)
        self.assertIs(type(found), str)
        self.assertEqual(ask(question), wanted)

    def test_by_hand(self):
        for question, wanted in (
            ("show 011/101", "011/101"), ("show alike:3", "100/010/001"), ("show sums:2:3:10", "012/123"), ("show 7", "7"),
            ("trim 0101/0101/1010", "01/10"), ("trim 011/101", "011/101"), ("trim 77/77", "7"),
            ("bits 00/01", "2"), ("bits 7", "0"), ("bits alike:3", "3"), ("bits 01/01", "1"),
            ("ends 00/01", "3"), ("ends 7", "1"), ("ends alike:3", "6"), ("ends 01/10", "4"),
            ("cover 00/01 0", "2"), ("cover 00/01 1", "1"), ("cover 00/01 2", "0"), ("cover alike:5 0", "4"),
            ("apart 00/01 0", "2"), ("apart 00/01 1", "1"), ("apart 00/01 9", "0"), ("apart alike:5 1", "5"),
            ("rank 24/36/01", "2"), ("rank 0", "0"), ("rank alike:8", "8"), ("rank shared:3", "3"),
            ("twos 24/36/01", "2"), ("twos 2", "0"), ("twos 011/101/110", "2"), ("rank 011/101/110", "3"),
            ("alone 102/002/102", "1 2"), ("alone 7", "0 0"), ("alone 01", "0 1"), ("alone alike:8", "3 3"), ("alone pick:3", "2 3"),
            ("run r02(c1(0,1),1) 1 1", "01 1"), ("run r02(c1(0,1),1) 1 0", "00 0"), ("run r02(c1(0,1),1) 2 7", "1 1"),
            ("run 5 0 0", " 5"), ("run 5 7 7", " 5"), ("run c3(8,9) 0 3", "1 9"), ("run r3(8,9) 0 3", "0 8"),
            ("settles r1(0,c1(0,1)) 00/01", "yes"), ("settles r1(0,c1(0,1)) 00/11", "no"), ("settles 7 77/77", "yes"),
            ("settles 7 77/76", "no"), ("settles 1 alike:1", "yes"), ("settles 0 alike:2", "no"),
            ("plan 7", "7"), ("plan 55/55", "5"),
        ):
            with self.subTest(question=question):
                self.assert_answer(question, wanted)

    def test_each_question_as_the_functions_answer(self):
        tables = greatest_small(2, 2) + greatest_small(10, 1) + [scrambled(3, 4, 3, 1), scrambled(1, 5, 4, 1)]
        for text in [show_table(table) for table in tables] + ["alike:5", "less:8:5", "sums:8:8:5", "shared:2", "pick:2"]:
            table = read_table(text)
            self.assert_answer("show " + text, show_table(table))
            self.assert_answer("trim " + text, show_table(trimmed(table)))
            self.assert_answer("bits " + text, str(least_bits(table)))
            self.assert_answer("ends " + text, str(fewest_ends(table)))
            self.assert_answer("rank " + text, str(rank(table)))
            self.assert_answer("twos " + text, str(rank_in_twos(table)))
            self.assert_answer("alone " + text, f"{alone_bits(table, 'row')} {alone_bits(table, 'column')}")
            self.assert_answer("plan " + text, show_plan(least_plan(table)))
            for word in range(10):
                self.assert_answer(f"cover {text} {word}", str(len(fewest_cover(table, word))))
                self.assert_answer(f"apart {text} {word}", str(len(apart(table, word))))
            plan = ask("plan " + text)
            self.assertIs(settles(read_plan(plan), table), True)
            self.assertEqual(bits_of(read_plan(plan)), least_bits(table))
            self.assert_answer(f"settles {plan} {text}", "yes")
            for row in range(8):
                for column in range(8):
                    bits, word = run(read_plan(plan), row, column)
                    self.assert_answer(f"run {plan} {row} {column}", "".join(map(str, bits)) + f" {word}")

    def test_great_tables_where_no_small_one_is_asked_for(self):
        self.assert_answer("show shared:3", show_table(read_table("shared:3")))
        self.assert_answer("trim alike:8", show_table(read_table("alike:8")))
        self.assert_answer("twos alike:8", "8")
        self.assert_answer("settles 0 alike:8", "no")


class Refusals(unittest.TestCase):
    def assert_refused(self, error, question):
        with self.subTest(question=question):
            self.assertRaises(error, ask, question)

    def test_no_text(self):
        for thing in NO_INTS + (0, ["show", "7"], ("show", "7"), b"show 7", ["show 7"]):
            if not isinstance(thing, str):
                self.assert_refused(NoAsk, thing)

    def test_another_first_word(self):
        for question in ("", " ", "7", "Show 7", "SHOW 7", "shows 7", "sho 7", "show\n 7", "\nshow 7", " show 7", "show\n7", "table 7",
                         "help", "run", "papers 7", "TABLE 7", "cut 7", "fewest 7", "1", "show,7", "least 7", "show:7", "alike:3"):
            self.assert_refused(NoAsk, question)

    def test_too_few_or_too_many_words(self):
        for name in OF_TABLE:
            for question in (name, f"{name} 7 7", f"{name} 7 7 7", f"{name} 7 ", f"{name}  7", f"{name} 7  ", f" {name} 7",
                             f"{name} a b", f"{name} 01 10", f"{name}  "):
                self.assert_refused(NoAsk, question)
        for name in WITH_WORD:
            for question in (name, f"{name} 7", f"{name} 7 7 7", f"{name} 7 7 ", f"{name}  7 7", f"{name} 7  7", f"{name} a",
                             f"{name} a b c", f"{name} alike:8"):
                self.assert_refused(NoAsk, question)
        for question in ("run", "run 7", "run 7 0", "run 7 0 0 0", "run 7 0 0 ", "run 7  0 0", "run  7 0 0", "run 7 0  0", "run a 8",
                         "settles", "settles 7", "settles 7 7 7", "settles 7  7", "settles  7 7", "settles 7 7 ", "settles a"):
            self.assert_refused(NoAsk, question)

    def test_an_empty_word_where_the_number_is_right(self):
        for question in ("show ", "bits ", "cover  0", "cover 7 ", "apart  ", "run 7  0", "run  0 0", "run   ", "settles  7",
                         "settles 7 ", "plan "):
            self.assert_refused(NoText, question)

    def test_a_table_that_does_not_read(self):
        for text in NO_TABLES:
            for name in OF_TABLE:
                self.assert_refused(NoText, f"{name} {text}")
            for name in WITH_WORD:
                self.assert_refused(NoText, f"{name} {text} 0")
                self.assert_refused(NoText, f"{name} {text} 00")
            self.assert_refused(NoText, f"settles 7 {text}")

    def test_a_plan_that_does_not_read(self):
        for text in NO_PLANS:
            self.assert_refused(NoText, f"run {text} 0 0")
            self.assert_refused(NoText, f"run {text} 8 9")
            self.assert_refused(NoText, f"settles {text} 7")
            self.assert_refused(NoText, f"settles {text} 01/1")

    def test_a_digit_that_does_not_read(self):
        for text in NO_DIGITS:
            for name in WITH_WORD:
                self.assert_refused(NoText, f"{name} 01/10 {text}")
                self.assert_refused(NoText, f"{name} alike:8 {text}")
            self.assert_refused(NoText, f"run 7 {text} 0")
            self.assert_refused(NoText, f"run 7 0 {text}")
            self.assert_refused(NoText, f"run 7 8 {text}")
            self.assert_refused(NoText, f"run 7 {text} 9")

    def test_too_great(self):
        for text in ("alike:6", "shared:3", "pick:3", "012345", "0/1/2/3/4/5"):
            for name in OF_SMALL:
                self.assert_refused(TooGreat, f"{name} {text}")
            for name in WITH_WORD:
                for word in range(10):
                    self.assert_refused(TooGreat, f"{name} {text} {word}")

    def test_no_card(self):
        for card in (8, 9):
            for plan in ("7", "r02(c1(0,1),1)"):
                self.assert_refused(NoCard, f"run {plan} {card} 0")
                self.assert_refused(NoCard, f"run {plan} 0 {card}")
                self.assert_refused(NoCard, f"run {plan} {card} {card}")


if __name__ == "__main__":
    unittest.main()
