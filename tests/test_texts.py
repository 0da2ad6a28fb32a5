import unittest

from talkleast.errors import NoText
from talkleast.least import fewest_plan, least_plan
from talkleast.named import alike, less, pick, shared, sums
from talkleast.plans import made_plan
from talkleast.tables import made_table
from talkleast.texts import read_plan, read_table, show_plan, show_table
from tests.helper import NO_INTS, Table, bushy, chain, greatest_small, scrambled

NO_TEXTS = tuple(thing for thing in NO_INTS if not isinstance(thing, str)) + (0, 1, 11, ("0",), ["0"], b"011/101", b"0", alike(2),
                                                                              ("end", 0))
SIGNS = "".join(chr(number) for number in range(32, 127)) + "\n"


def changed(text):
    """All texts that have one sign more, one fewer, or one other."""
    found = []
    for place in range(len(text) + 1):
        for sign in SIGNS:
            found.append(text[:place] + sign + text[place:])
            found.append(text[:place] + sign + text[place + 1:])
        found.append(text[:place] + text[place + 1:])
    return found


class Tables(Table, unittest.TestCase):
    def assert_text(self, table, text):
        self.assertEqual(show_table(table), text)
        self.assertIs(type(show_table(table)), str)
        self.assert_table(read_table(text), table)

    def assert_refused(self, text):
        with self.subTest(text=text):
            self.assertRaises(NoText, read_table, text)

    def test_written_out(self):
        self.assert_text(((0, 1, 1), (1, 0, 1)), "011/101")
        self.assert_text(((7,),), "7")
        self.assert_text(((0, 1, 2, 3, 4, 5, 6, 7),), "01234567")
        self.assert_text(((8,), (9,)), "8/9")

    def test_all_sizes(self):
        for rows in range(1, 9):
            for columns in range(1, 9):
                table = scrambled(rows, columns, 10, rows)
                self.assert_text(table, "/".join("".join(map(str, row)) for row in table))

    def test_refused(self):
        for text in ("", "/", "//", "01/", "/01", "01//10", "01/1", "0/10", "01/10/1", "000000000", "0/0/0/0/0/0/0/0/0",
                     "01/10 ", " 01/10", "01 /10", "01/ 10", "0 1/1 0", "01/10\n", "\n01/10", "01\n10", "01/\n10", "01\\10",
                     "-1", "+1", "1.0", "0,1", "a", "0a", "01/1a", "O1", "0x", "1_0", "1e0", "01|10", "(01/10)", "\"01\"", "01/10/",
                     "012345678", "01/10;", "000000000/000000000", "\n", " ", "~", "0" * 4000, "/" * 4000, "0/" * 2000):
            self.assert_refused(text)

    def test_digits_of_other_scripts(self):
        for text in ("\u0661", "\u00b2", "0\uff11", "\u0967/\u0968", "alike:\u0663", "alike:\u00b3"):
            self.assert_refused(text)

    def test_no_text(self):
        for thing in NO_TEXTS:
            self.assert_refused(thing)

    def test_one_sign_changed(self):
        for text in ("7", "011/101", "01/23/45", "01234567", "0/1/2/3/4/5/6/7"):
            for other in changed(text):
                rows = other.split("/")
                good = all(row and len(row) <= 8 and set(row) <= set("0123456789") for row in rows)
                if good and len(rows) <= 8 and len(set(map(len, rows))) == 1:
                    self.assertEqual(show_table(read_table(other)), other)
                else:
                    self.assert_refused(other)


class Names(Table, unittest.TestCase):
    def assert_refused(self, text):
        with self.subTest(text=text):
            self.assertRaises(NoText, read_table, text)

    def test_written_out(self):
        self.assert_table(read_table("alike:4"), alike(4))
        self.assert_table(read_table("less:3:4"), less(3, 4))
        self.assert_table(read_table("sums:3:3:2"), sums(3, 3, 2))
        self.assert_table(read_table("shared:2"), shared(2))
        self.assert_table(read_table("pick:3"), pick(3))
        self.assert_table(read_table("sums:2:4:10"), sums(2, 4, 10))

    def test_each_number_up_to_twelve_and_a_hundred(self):
        for n in list(range(13)) + [18, 80, 88, 99, 100]:
            for name, function, most in (("alike", alike, 8), ("shared", shared, 3), ("pick", pick, 3)):
                if 1 <= n <= most:
                    self.assert_table(read_table(f"{name}:{n}"), function(n))
                else:
                    self.assert_refused(f"{name}:{n}")
            for m in range(11):
                if 1 <= n <= 8 and 1 <= m <= 8:
                    self.assert_table(read_table(f"less:{n}:{m}"), less(n, m))
                    self.assert_table(read_table(f"less:{m}:{n}"), less(m, n))
                else:
                    self.assert_refused(f"less:{n}:{m}")
                    self.assert_refused(f"less:{m}:{n}")
                for k in (0, 1, 2, 9, 10, 11, 12):
                    if 1 <= n <= 8 and 1 <= m <= 8 and 2 <= k <= 10:
                        self.assert_table(read_table(f"sums:{n}:{m}:{k}"), sums(n, m, k))
                    else:
                        self.assert_refused(f"sums:{n}:{m}:{k}")

    def test_refused(self):
        for text in ("alike", "alike:", "alike:04", "alike:4:", "alike::4", ":alike:4", "alike:4:4", "alike: 4", "alike:4 ",
                     " alike:4", "alike :4", "alike:+4", "alike:-4", "alike:4.0", "alike:0x4", "alike:4_", "alike:1_0", "alike:a",
                     "alike:004", "alike:400", "alike:4\n", "alike\n:4", "Alike:4", "ALIKE:4", "like:4", "alikes:4", "same:4",
                     "less", "less:3", "less:3:", "less::3", "less:3:4:5", "less:03:4", "less:3:04", "less:3:4:", "less:3,4",
                     "less:3/4", "sums:3:3", "sums:3", "sums", "sums:3:3:", "sums:3:3:02", "sums:3:3:2:2", "sums:03:3:2",
                     "sums:3:03:2", "sums:3:3:010", "sums:3:3:100", "shared:02", "shared:2:2", "shared:", "shared", "pick:03",
                     "pick:3:3", "pick:", "pick", ":", "::", ":4", "4:", "4:4", "alike:4/alike:4", "011:101", "011/101:",
                     "table:3", "made_table:3", "alike;4", "alike=4", "alike(4)", "alike:44", "alike:" + "4" * 3990,
                     "alike" + ":4" * 1990, ":" * 4000):
            self.assert_refused(text)

    def test_one_sign_changed(self):
        for text in ("alike:4", "less:3:4", "sums:3:3:2", "shared:2", "pick:3"):
            for other in changed(text):
                name, *numbers = other.split(":")
                plain = all(number in [str(n) for n in range(1, 100)] for number in numbers)
                wanted = None
                if plain and name == text.split(":")[0] and len(numbers) == len(text.split(":")) - 1:
                    function = {"alike": alike, "less": less, "sums": sums, "shared": shared, "pick": pick}[name]
                    try:
                        wanted = function(*map(int, numbers))
                    except ValueError:
                        wanted = None
                if wanted is None:
                    self.assert_refused(other)
                else:
                    self.assert_table(read_table(other), wanted)


class Plans(unittest.TestCase):
    def assert_text(self, plan, text):
        self.assertEqual(show_plan(plan), text)
        self.assertIs(type(show_plan(plan)), str)
        self.assertEqual(read_plan(text), plan)
        made_plan(read_plan(text))

    def assert_refused(self, text):
        with self.subTest(text=text):
            self.assertRaises(NoText, read_plan, text)

    def test_written_out(self):
        self.assert_text(("ask", "row", 5, ("ask", "column", 2, ("end", 0), ("end", 1)), ("end", 1)), "r02(c1(0,1),1)")
        self.assert_text(("ask", "column", 255, ("end", 9), ("ask", "row", 128, ("end", 3), ("end", 3))), "c01234567(9,r7(3,3))")
        for word in range(10):
            self.assert_text(("end", word), str(word))

    def test_each_set(self):
        for cards in range(1, 256):
            digits = "".join(str(card) for card in range(8) if cards >> card & 1)
            self.assert_text(("ask", "row", cards, ("end", 0), ("end", 1)), f"r{digits}(0,1)")
            self.assert_text(("ask", "column", cards, ("end", 2), ("end", 0)), f"c{digits}(2,0)")

    def test_plans_of_tables(self):
        for table in greatest_small(3, 3) + [alike(5), sums(5, 5, 5)]:
            for plan in (least_plan(table), fewest_plan(table)):
                self.assert_text(plan, show_plan(plan))

    def test_greatest_plans(self):
        for yes in (True, False):
            for side in ("row", "column"):
                self.assert_text(chain(12, side, yes), show_plan(chain(12, side, yes)))
                for asks in (13, 14, 30, 50):
                    self.assert_refused(show_plan(chain(asks, side, yes)))
        self.assert_text(bushy(300), show_plan(bushy(300)))
        self.assertLessEqual(len(show_plan(bushy(300))), 4000)
        for asks in (301, 302):
            self.assertLessEqual(len(show_plan(bushy(asks))), 4000)
            self.assert_refused(show_plan(bushy(asks)))

    def test_refused(self):
        for text in ("", " ", "\n", "r", "c", "(", ")", ",", "()", "(0,1)", "r(0,1)", "c(0,1)", "r0", "r0(", "r0()", "r0(0", "r0(0)",
                     "r0(0,", "r0(0,1", "r0(,1)", "r0(0,)", "r0(,)", "r0(0,1,)", "r0(0,1,2)", "r0(,0,1)", "r0(0,,1)", "r0(0,1))",
                     "r0((0,1)", "r0((0,1))", "(r0(0,1))", "r0(0,1),", "r0(0,1)0", "0r0(0,1)", "r0(0,1) ", " r0(0,1)", "r 0(0,1)",
                     "r0 (0,1)", "r0( 0,1)", "r0(0 ,1)", "r0(0, 1)", "r0(0,1 )", "r0(0,1)\n", "\nr0(0,1)", "r0(0,\n1)", "r0(0;1)",
                     "r0[0,1]", "r0{0,1}", "R0(0,1)", "C0(0,1)", "a0(0,1)", "x0(0,1)", "row0(0,1)", "rc0(0,1)", "rr0(0,1)",
                     "r00(0,1)", "r10(0,1)", "r011(0,1)", "r021(0,1)", "r77(0,1)", "r70(0,1)", "r8(0,1)", "r9(0,1)", "r08(0,1)",
                     "r789(0,1)", "c012345678(0,1)", "c8(0,1)", "r-1(0,1)", "r0,1(0,1)", "r0(00,1)", "r0(0,10)", "00", "10", "01",
                     "-1", "a", "r0(a,1)", "r0(0,a)", "r0(r,1)", "r0(0,c)", "r0(r1,1)", "r0(0,r1(0))", "r0(r(0,1),1)",
                     "r0(c1(0,1)1)", "r0c1(0,1)", "r0(0,1)(0,1)", "r0(0,1)r0(0,1)", "011/101", "alike:4", "end", "ask",
                     "r0(" * 50, "r0(" * 50 + "0" + ",0)" * 50, "(" * 50 + "0" + ")" * 50, "r0(0," * 50, "0" * 4000, "r" * 4000,
                     "r" + "0" * 3999, "r0(0,1)" * 500):
            self.assert_refused(text)

    def test_digits_of_other_scripts(self):
        for text in ("\u0661", "\u00b2", "r\u0661(0,1)", "r0(\uff11,1)"):
            self.assert_refused(text)

    def test_no_text(self):
        for thing in NO_TEXTS:
            self.assert_refused(thing)

    def test_one_sign_changed(self):
        """What is read is exactly what is written for the plan that it is read as."""
        read = 0
        for text in ("7", "r02(c1(0,1),1)", "c147(r0(2,3),c67(4,5))"):
            for other in changed(text):
                try:
                    plan = read_plan(other)
                except NoText:
                    continue
                read += 1
                self.assertEqual(show_plan(made_plan(plan)), other)
        self.assertGreater(read, 100)

    def test_one_plan_of_each_changed_digit(self):
        for digit in range(10):
            self.assertEqual(read_plan(f"r02(c1({digit},1),1)"),
                             ("ask", "row", 5, ("ask", "column", 2, ("end", digit), ("end", 1)), ("end", 1)))


class Together(unittest.TestCase):
    def test_texts_of_tables_read_as_tables_alone(self):
        self.assertEqual(read_table("7"), ((7,),))
        self.assertEqual(read_plan("7"), ("end", 7))
        self.assertRaises(NoText, read_table, "r0(0,1)")
        self.assertRaises(NoText, read_plan, "7/7")

    def test_made_tables_stay(self):
        for text in ("011/101", "alike:3"):
            self.assertEqual(made_table(read_table(text)), read_table(text))


if __name__ == "__main__":
    unittest.main()
