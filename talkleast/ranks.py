"""Determinants, and the rank of a table with the base that shows it."""

from talkleast.checks import in_lowest_terms
from talkleast.tables import check_card, flipped


# For each set of columns the sum over all ways to choose one entry from each of the rows so far and these columns.
def determinant(square):
    sums = {0: 1}
    for row in square:
        sums = with_row(sums, row)
    return sums[(1 << len(square)) - 1]


def with_row(sums, row):
    found = {}
    for columns, total in sums.items():
        for column, number in enumerate(row):
            if (columns >> column) & 1 == 0:
                wider = columns | (1 << column)
                found[wider] = found.get(wider, 0) + turn(columns, column) * total * number
    return found


# The columns of the rows ahead that are greater than this one make pairs that turn the sign.
def turn(columns, column):
    sign = 1
    greater = columns >> (column + 1)
    while greater != 0:
        if greater & 1 == 1:
            sign = -sign
        greater = greater >> 1
    return sign


def base(table):
    return (base_lines(table), base_lines(flipped(table)))


def rank(table):
    return len(base_lines(table))


def base_lines(lines):
    found = []
    kept = []
    for index, line in enumerate(lines):
        rest = reduced(line, kept)
        if any([number != 0 for number in rest]):
            found.append(index)
            kept.append(rest)
    return found


# Takes from the line, times an int, so much of the kept lines that only noughts are left if it is a sum of them.
# Each kept line has a nought in the leading place of those ahead of it, so no place once emptied fills again.
def reduced(line, kept):
    rest = list(line)
    for other in kept:
        place = leading_place(other)
        taken = rest[place]
        rest = [number * other[place] - taken * part for number, part in zip(rest, other)]
    return rest


def leading_place(line):
    return [place for place, number in enumerate(line) if number != 0][0]


# By Cramer's rule: times is the determinant of the base square, and each int that of the square with the row in the
# place of one base row. The base columns suffice, as the others are sums of them.
def makeup(table, row):
    check_card(row, len(table))
    found = base(table)
    square = [[table[line][column] for column in found[1]] for line in found[0]]
    wanted = [table[row][column] for column in found[1]]
    times = determinant(square)
    ints = [determinant(square[:place] + [wanted] + square[place + 1:]) for place in range(len(square))]
    lowest = in_lowest_terms([times] + ints)
    if times < 0:
        lowest = [-number for number in lowest]
    return (lowest[0], lowest[1:])
