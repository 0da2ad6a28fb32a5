"""What several modules share: what they ask of an int, and numbers in lowest terms."""


# True and False are ints to Python, but never numbers here.
def is_int(thing, least, most):
    return isinstance(thing, int) and not isinstance(thing, bool) and least <= thing <= most


# At least one of the numbers is other than 0.
def in_lowest_terms(numbers):
    divisor = 0
    for number in numbers:
        divisor = common_divisor(divisor, abs(number))
    return [number // divisor for number in numbers]


def common_divisor(one, other):
    greater = one
    lesser = other
    while lesser != 0:
        rest = greater % lesser
        greater = lesser
        lesser = rest
    return greater
