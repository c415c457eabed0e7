"""Of which kind a value is, whatever it is, and what is kept and told of rows."""


def is_between(value, least, most):
    """Whether a value is an integer from least to most; True and False are none."""
    return isinstance(value, int) and not isinstance(value, bool) and least <= value <= most


def is_from(value, least):
    """Whether a value is an integer from least on."""
    return isinstance(value, int) and not isinstance(value, bool) and value >= least


def is_row(value):
    """Whether a value is a row as it may be passed: a tuple, or a list in its place."""
    return isinstance(value, (tuple, list))


def is_row_between(value, many, least, most):
    """Whether a value is a row of so many integers from least to most."""
    return is_row(value) and len(value) == many and all([is_between(part, least, most) for part in value])


def are_rows_of_bits(value, many):
    """Whether a value is a row of rows of so many 0 and 1 each."""
    return is_row(value) and all([is_row_between(row, many, 0, 1) for row in value])


def tuples_of(value):
    """A value with tuples in the places of its lists; it comes back to itself as deep as rows stand in one another."""
    if is_row(value):
        return tuple([tuples_of(part) for part in value])
    return value


def has_tuples_alone(value):
    """Whether a value that is right, if lists may stand for tuples, has no list in it."""
    return tuples_of(value) == value


def row_kept(value):
    """What an object keeps of what it is given: a list as a tuple, all else just as it is."""
    return tuple(value) if isinstance(value, list) else value
