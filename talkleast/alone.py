"""One side that speaks alone, and two sides that report to a third."""

from talkleast.errors import NoCode
from talkleast.tables import check_card, flipped, row_kinds


def codes(table, side):
    kinds = row_kinds(lines_of(table, side))
    firsts = sorted(set(kinds))
    length = (len(firsts) - 1).bit_length()
    return [digits(firsts.index(kind), length) for kind in kinds]


def alone_bits(table, side="row"):
    return len(codes(table, side)[0])


def heard(table, side, code, card):
    speaker = card_with(table, side, code)
    lines = lines_of(table, side)
    check_card(card, len(lines[0]))
    return lines[speaker][card]


def third(table, row_code, column_code):
    row = card_with(table, "row", row_code)
    column = card_with(table, "column", column_code)
    return table[row][column]


def told_apart(table, side, one, other):
    lines = lines_of(table, side)
    check_card(one, len(lines))
    check_card(other, len(lines))
    for card in range(len(lines[0])):
        if lines[one][card] != lines[other][card]:
            return card
    return None


# The table with the side's own cards as rows.
def lines_of(table, side):
    return table if side == "row" else flipped(table)


def digits(number, length):
    return [(number >> place) & 1 for place in range(length - 1, -1, -1)]


def card_with(table, side, code):
    known = codes(table, side)
    if code not in known:
        raise NoCode("no card of that side has this code")
    return known.index(code)
