"""Of which kind a value is."""


def is_between(value, least, most):
    """Whether a value is an integer from least to most; True and False are none."""
    return isinstance(value, int) and not isinstance(value, bool) and least <= value <= most
