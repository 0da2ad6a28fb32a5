"""Weights of right answers, and the plans that have the most within given bits."""

from talkleast.errors import TooGreat
from talkleast.parts import splits
from talkleast.runs import reached
from talkleast.tables import cards_in, cut, words_in

MOST_WEIGHED = 4


def right_weight(table, weights, plan):
    total = 0
    for row, words in enumerate(table):
        for column, word in enumerate(words):
            if reached(plan, row, column) == word:
                total += weights[row][column]
    return total


def best_right(table, weights, bits):
    numbers = best_weights(table, weights, bits)
    whole = ((1 << len(table)) - 1, (1 << len(table[0])) - 1)

    def plan_of(part, left):
        if left == 0:
            return ("end", best_word(table, weights, part[0], part[1]))
        if numbers[part + (left,)] == numbers[part + (left - 1,)]:
            return plan_of(part, left - 1)
        split = max(splits(part[0], part[1]), key=lambda way: split_weight(numbers, way, left - 1))
        return ("ask", split[0], split[1], plan_of(split[2], left - 1), plan_of(split[3], left - 1))

    return (numbers[whole + (bits,)], plan_of(whole, bits))


def weight_paper(table, weights, bits):
    return [place + (weight,) for place, weight in best_weights(table, weights, bits).items()]


# The best weight for all sets of rows and of columns and all numbers of bits, in sorted order. Like the parts of a
# table, the two parts of a split always come ahead of the part itself.
def best_weights(table, weights, bits):
    if len(table) > MOST_WEIGHED or len(table[0]) > MOST_WEIGHED:
        raise TooGreat("the table has more than four rows or columns")
    numbers = {}
    for rows in range(1, 1 << len(table)):
        for columns in range(1, 1 << len(table[0])):
            word = best_word(table, weights, rows, columns)
            numbers[(rows, columns, 0)] = word_weight(table, weights, rows, columns, word)
            for left in range(1, bits + 1):
                ways = [split_weight(numbers, way, left - 1) for way in splits(rows, columns)]
                numbers[(rows, columns, left)] = max([numbers[(rows, columns, left - 1)]] + ways)
    return numbers


def split_weight(numbers, way, left):
    return numbers[way[2] + (left,)] + numbers[way[3] + (left,)]


def best_word(table, weights, rows, columns):
    return max(words_in(cut(table, rows, columns)), key=lambda word: word_weight(table, weights, rows, columns, word))


def word_weight(table, weights, rows, columns, word):
    total = 0
    for row in cards_in(rows):
        total += sum([weights[row][column] for column in cards_in(columns) if table[row][column] == word])
    return total
