"""Mixes of plans: how likely they reach the right word when both sides see the same coin."""

from talkleast.checks import in_lowest_terms
from talkleast.runs import reached
from talkleast.tables import check_card


def right_share(table, mix, row, column):
    check_card(row, len(table))
    check_card(column, len(table[0]))
    return share_of(mix, right_sum(table, mix, row, column))


def worst_share(table, mix):
    sums = []
    for row in range(len(table)):
        sums.extend([(right_sum(table, mix, row, column), row, column) for column in range(len(table[0]))])
    worst = min(sums)
    return share_of(mix, worst[0]) + (worst[1], worst[2])


# The sum of the shares of those plans that reach the word of the entry.
def right_sum(table, mix, row, column):
    return sum([share for share, plan in mix if reached(plan, row, column) == table[row][column]])


def share_of(mix, top):
    return tuple(in_lowest_terms([top, sum([share for share, plan in mix])]))
