"""Questions in words, answered in a text."""

from talkleast.alone import alone_bits
from talkleast.apart import apart
from talkleast.covers import fewest_cover
from talkleast.errors import NoAsk, NoText
from talkleast.least import fewest_ends, least_bits, least_plan
from talkleast.ranks import rank
from talkleast.runs import run, settles
from talkleast.tables import trimmed
from talkleast.texts import DIGITS, read_plan, read_table, show_plan, show_table
from talkleast.twos import rank_in_twos

# What the words behind the first one are to be.
FORMS = {
    "show": ("TABLE",),
    "trim": ("TABLE",),
    "bits": ("TABLE",),
    "ends": ("TABLE",),
    "cover": ("TABLE", "WORD"),
    "apart": ("TABLE", "WORD"),
    "rank": ("TABLE",),
    "twos": ("TABLE",),
    "alone": ("TABLE",),
    "run": ("PLAN", "CARD", "CARD"),
    "settles": ("PLAN", "TABLE"),
    "plan": ("TABLE",),
}


def ask(question):
    if not isinstance(question, str):
        raise NoAsk("a question is a text")
    words = question.split(" ")
    name = words[0]
    if name not in FORMS or len(words) != len(FORMS[name]) + 1:
        raise NoAsk("no question has this first word and so many words")
    things = [read_as(form, word) for form, word in zip(FORMS[name], words[1:])]
    if len(things) == 1:
        return answer_of_table(name, things[0])
    return answer_of_several(name, things)


def read_as(form, word):
    if form == "TABLE":
        return read_table(word)
    if form == "PLAN":
        return read_plan(word)
    return read_digit(word)


def read_digit(word):
    if len(word) != 1 or word not in DIGITS:
        raise NoText("a word or a card is one digit")
    return int(word)


def answer_of_table(name, table):
    if name == "show":
        return show_table(table)
    if name == "trim":
        return show_table(trimmed(table))
    if name == "bits":
        return str(least_bits(table))
    if name == "ends":
        return str(fewest_ends(table))
    if name == "rank":
        return str(rank(table))
    if name == "twos":
        return str(rank_in_twos(table))
    if name == "alone":
        return str(alone_bits(table, "row")) + " " + str(alone_bits(table, "column"))
    return show_plan(least_plan(table))


def answer_of_several(name, things):
    if name == "cover":
        return str(len(fewest_cover(things[0], things[1])))
    if name == "apart":
        return str(len(apart(things[0], things[1])))
    if name == "run":
        return answer_of_run(run(things[0], things[1], things[2]))
    return "yes" if settles(things[0], things[1]) else "no"


def answer_of_run(result):
    return "".join([str(bit) for bit in result[0]]) + " " + str(result[1])
