"""Tables and plans, written as texts and read from them."""

from talkleast.errors import NoPlan, NoTable, NoText
from talkleast.named import alike, less, pick, shared, sums
from talkleast.plans import made_plan
from talkleast.tables import cards_in, made_table

DIGITS = "0123456789"


def show_table(table):
    return "/".join(["".join([str(word) for word in row]) for row in table])


def read_table(text):
    if not isinstance(text, str):
        raise NoText("a table is read from a text")
    try:
        if ":" in text:
            return table_named(text.split(":"))
        # A sign that is no digit is found at -1, which is no word.
        return made_table([[DIGITS.find(sign) for sign in row] for row in text.split("/")])
    except NoTable:
        raise NoText("the text makes no table") from None


def table_named(words):
    name = words[0]
    numbers = [read_number(word) for word in words[1:]]
    if name == "alike" and len(numbers) == 1:
        return alike(numbers[0])
    if name == "less" and len(numbers) == 2:
        return less(numbers[0], numbers[1])
    if name == "sums" and len(numbers) == 3:
        return sums(numbers[0], numbers[1], numbers[2])
    if name == "shared" and len(numbers) == 1:
        return shared(numbers[0])
    if name == "pick" and len(numbers) == 1:
        return pick(numbers[0])
    raise NoText("a table's name has one of five words and all its numbers")


# No table has the number 0, so a 0 ahead is needless or wrong.
def read_number(word):
    if len(word) not in (1, 2) or word[0] == "0" or any([sign not in DIGITS for sign in word]):
        raise NoText("a number has one or two digits without a needless 0")
    return int(word)


def show_plan(plan):
    if plan[0] == "end":
        return str(plan[1])
    side = "r" if plan[1] == "row" else "c"
    cards = "".join([str(card) for card in cards_in(plan[2])])
    no = show_plan(plan[3])
    yes = show_plan(plan[4])
    return f"{side}{cards}({no},{yes})"


def read_plan(text):
    if not isinstance(text, str):
        raise NoText("a plan is read from a text")
    reader = Reader(text)
    plan = reader.take_plan()
    if reader.place != len(text):
        raise NoText("something stands behind the plan")
    try:
        return made_plan(plan)
    except NoPlan:
        raise NoText("the text makes no plan") from None


class Reader:
    def __init__(self, text):
        self.text = text
        self.place = 0

    def sign(self):
        return self.text[self.place:self.place + 1]

    def at_digit(self):
        return self.place < len(self.text) and self.sign() in DIGITS

    def take(self, wanted):
        if self.sign() != wanted:
            raise NoText(f"{wanted} is missing")
        self.place += 1

    def take_digit(self):
        if not self.at_digit():
            raise NoText("a digit is missing")
        digit = DIGITS.find(self.sign())
        self.place += 1
        return digit

    def take_plan(self):
        if self.at_digit():
            return ("end", self.take_digit())
        side = self.take_side()
        cards = self.take_cards()
        self.take("(")
        no = self.take_plan()
        self.take(",")
        yes = self.take_plan()
        self.take(")")
        return ("ask", side, cards, no, yes)

    def take_side(self):
        if self.sign() == "r":
            self.take("r")
            return "row"
        self.take("c")
        return "column"

    # Rising cards alone, so that each set is written in one way.
    def take_cards(self):
        last = self.take_digit()
        cards = 1 << last
        while self.at_digit():
            card = self.take_digit()
            if card <= last:
                raise NoText("cards are written from the least on, each once")
            cards = cards | (1 << card)
            last = card
        return cards
