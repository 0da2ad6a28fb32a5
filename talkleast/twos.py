"""The rank of a table, its base and its makeup, with all words and sums taken modulo 2."""

from talkleast.tables import cards_in, check_card, flipped


def base_in_twos(table):
    return (base_indexes(lines_in_twos(table)), base_indexes(lines_in_twos(flipped(table))))


def rank_in_twos(table):
    return len(base_indexes(lines_in_twos(table)))


def makeup_in_twos(table, row):
    check_card(row, len(table))
    lines = lines_in_twos(table)
    return cards_in(reduced_in_twos(lines[row], kept_lines(lines))[1])


# Each line as an int with a bit for each odd word.
def lines_in_twos(table):
    return [sum([(word % 2) << place for place, word in enumerate(row)]) for row in table]


def base_indexes(lines):
    return [index for index, rest, makers in kept_lines(lines)]


# For each base line its index, what is left of it, and the set of those base lines whose sum that is.
def kept_lines(lines):
    kept = []
    for index, line in enumerate(lines):
        rest = reduced_in_twos(line, kept)
        if rest[0] != 0:
            kept.append((index, rest[0], rest[1] | (1 << index)))
    return kept


# What is left of the line, and the set of those base lines whose sum was taken from it.
def reduced_in_twos(line, kept):
    left = line
    taken = 0
    for index, rest, makers in kept:
        if (left >> (rest.bit_length() - 1)) & 1 == 1:
            left = left ^ rest
            taken = taken ^ makers
    return (left, taken)
