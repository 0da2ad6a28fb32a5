"""Plans: which things are plans, their bits and outcomes, and the sides exchanged."""

from talkleast.checks import is_int
from talkleast.errors import NoPlan
from talkleast.tables import GREATEST_WORD

MOST_ASKS_DEEP = 12
MOST_ASKS = 300
ALL_CARDS = 255
OTHER_SIDE = {"row": "column", "column": "row"}


def made_plan(thing):
    if not is_plan(thing, MOST_ASKS_DEEP):
        raise NoPlan("a plan is an end or an ask, with at most 12 asks one within another")
    # Each ask has two ways on, so there is always one end more than asks.
    if outcomes_of(thing) > MOST_ASKS + 1:
        raise NoPlan("a plan has at most 300 asks")
    return thing


# The bound on the depth also ends the walk early where the same tuple stands on both ways on, again and again.
def is_plan(thing, deep):
    if is_end(thing):
        return True
    return deep > 0 and is_ask(thing) and is_plan(thing[3], deep - 1) and is_plan(thing[4], deep - 1)


def is_end(thing):
    return is_tuple(thing, 2) and is_text(thing[0], "end") and is_int(thing[1], 0, GREATEST_WORD)


def is_ask(thing):
    if not is_tuple(thing, 5) or not is_text(thing[0], "ask"):
        return False
    return (is_text(thing[1], "row") or is_text(thing[1], "column")) and is_int(thing[2], 1, ALL_CARDS)


def is_tuple(thing, size):
    return isinstance(thing, tuple) and len(thing) == size


def is_text(thing, text):
    return isinstance(thing, str) and thing == text


def bits_of(plan):
    if plan[0] == "end":
        return 0
    return 1 + max(bits_of(plan[3]), bits_of(plan[4]))


def outcomes_of(plan):
    if plan[0] == "end":
        return 1
    return outcomes_of(plan[3]) + outcomes_of(plan[4])


def flipped_plan(plan):
    if plan[0] == "end":
        return plan
    return ("ask", OTHER_SIDE[plan[1]], plan[2], flipped_plan(plan[3]), flipped_plan(plan[4]))
