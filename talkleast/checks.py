"""What several modules ask of a value before they take it."""


# True and False are ints to Python, but never numbers here.
def is_int(thing, least, most):
    return isinstance(thing, int) and not isinstance(thing, bool) and least <= thing <= most
