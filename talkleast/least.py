"""Plans with the fewest bits and plans with the fewest outcomes."""

from talkleast.parts import bits_numbers, bits_paper, ends_numbers, ends_paper, joined_bits, joined_ends, splits
from talkleast.tables import cards_in, column_kinds, cut, row_kinds, trimmed, words_in


# The whole part has the greatest set of rows and of columns, so it comes last on a paper.
def least_bits(table):
    return bits_paper(table)[-1][2]


def fewest_ends(table):
    return ends_paper(table)[-1][2]


def least_plan(table):
    return plan_by(table, bits_numbers(table), joined_bits)


def fewest_plan(table):
    return plan_by(table, ends_numbers(table), joined_ends)


def plan_by(table, numbers, joined):
    rest = trimmed(table)
    own = {"row": sets_of_kinds(row_kinds(table)), "column": sets_of_kinds(column_kinds(table))}

    def plan_of(rows, columns):
        words = words_in(cut(rest, rows, columns))
        if len(words) == 1:
            return ("end", words[0])
        split = min(splits(rows, columns), key=lambda way: joined(numbers[way[2]], numbers[way[3]]))
        no = split[2]
        yes = split[3]
        return ("ask", split[0], widened(split[1], own[split[0]]), plan_of(no[0], no[1]), plan_of(yes[0], yes[1]))

    return plan_of((1 << len(rest)) - 1, (1 << len(rest[0])) - 1)


# For each card of the trimmed table the set of the table's own cards of that kind.
def sets_of_kinds(kinds):
    return [sum([1 << card for card, kind in enumerate(kinds) if kind == first]) for first in sorted(set(kinds))]


def widened(cards, sets):
    return sum([sets[card] for card in cards_in(cards)])
