"""Running plans: what is said, where it ends, and whether a table is settled."""

from talkleast.tables import MOST_LINES, check_card


def run(plan, row, column):
    check_card(row, MOST_LINES)
    check_card(column, MOST_LINES)
    return way(plan, row, column)


def way(plan, row, column):
    bits = []
    place = plan
    while place[0] == "ask":
        card = row if place[1] == "row" else column
        bit = (place[2] >> card) & 1
        bits.append(bit)
        place = place[4] if bit == 1 else place[3]
    return (bits, place[1])


def reached(plan, row, column):
    return way(plan, row, column)[1]


def ends_of(plan, rows, columns):
    if plan[0] == "end":
        return [(rows, columns, plan[1])]
    cards = plan[2]
    if plan[1] == "row":
        return ends_of(plan[3], rows & ~cards, columns) + ends_of(plan[4], rows & cards, columns)
    return ends_of(plan[3], rows, columns & ~cards) + ends_of(plan[4], rows, columns & cards)


def settles(plan, table):
    for row, words in enumerate(table):
        for column, word in enumerate(words):
            if reached(plan, row, column) != word:
                return False
    return True
