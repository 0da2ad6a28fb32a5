"""Tables made by rule."""

from talkleast.checks import is_int
from talkleast.errors import NoTable
from talkleast.tables import MOST_LINES, cards_in

GREATEST_MODULUS = 10
# 2 to the power 3 is as many rows and columns as a table may have.
MOST_BITS = 3


def alike(n):
    check_number(n, 1, MOST_LINES)
    return ruled(n, n, lambda r, c: 1 if r == c else 0)


def less(n, m):
    check_number(n, 1, MOST_LINES)
    check_number(m, 1, MOST_LINES)
    return ruled(n, m, lambda r, c: 1 if r < c else 0)


def sums(n, m, k=2):
    check_number(n, 1, MOST_LINES)
    check_number(m, 1, MOST_LINES)
    check_number(k, 2, GREATEST_MODULUS)
    return ruled(n, m, lambda r, c: (r + c) % k)


def shared(n):
    check_number(n, 1, MOST_BITS)
    return ruled(1 << n, 1 << n, lambda r, c: len(cards_in(r & c)))


def pick(n):
    check_number(n, 1, MOST_BITS)
    return ruled(n, 1 << n, lambda r, c: (c >> r) & 1)


def check_number(number, least, most):
    if not is_int(number, least, most):
        raise NoTable(f"a number of this table is an int from {least} to {most}")


def ruled(height, width, rule):
    return tuple([tuple([rule(r, c) for c in range(width)]) for r in range(height)])
