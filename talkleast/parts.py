"""The parts of a small table, and the least numbers that their splits give."""

from talkleast.tables import check_small, cut, trimmed, words_in


def bits_paper(table):
    return paper(bits_numbers(table))


def ends_paper(table):
    return paper(ends_numbers(table))


def paper(numbers):
    return [(part[0], part[1], number) for part, number in numbers.items()]


def bits_numbers(table):
    return least_numbers(table, 0, joined_bits)


def ends_numbers(table):
    return least_numbers(table, 1, joined_ends)


def joined_bits(no, yes):
    return 1 + max(no, yes)


def joined_ends(no, yes):
    return no + yes


# A set is a greater int than each set within it, so the two parts of a split always come ahead of the part itself,
# and the parts come in sorted order.
def least_numbers(table, ground, joined):
    check_small(table)
    rest = trimmed(table)
    numbers = {}
    for rows in range(1, 1 << len(rest)):
        for columns in range(1, 1 << len(rest[0])):
            if len(words_in(cut(rest, rows, columns))) == 1:
                numbers[(rows, columns)] = ground
            else:
                ways = splits(rows, columns)
                numbers[(rows, columns)] = min([joined(numbers[no], numbers[yes]) for side, cards, no, yes in ways])
    return numbers


# Each split as (side, cards, no, yes): the part where the side's card is not in cards, and that where it is.
def splits(rows, columns):
    by_rows = [("row", half, (rows - half, columns), (half, columns)) for half in halves(rows)]
    by_columns = [("column", half, (rows, columns - half), (rows, half)) for half in halves(columns)]
    return by_rows + by_columns


# Of the two sets of a split only the lesser is listed, so that each split comes once.
def halves(cards):
    return [half for half in range(1, cards) if half & cards == half and half < cards - half]
