"""Values of all kinds, none of which must make an error but those that are told."""


class Own:
    """An object of which nothing is known."""


class Sly:
    """An object that makes errors as soon as it is compared, measured or gone over."""

    def __eq__(self, other):
        raise ArithmeticError("compared")

    def __len__(self):
        raise ArithmeticError("measured")

    def __iter__(self):
        raise ArithmeticError("gone over")

    def __bool__(self):
        raise ArithmeticError("tested")


RING = []
RING.append(RING)
ATOMS = (
    None, True, False, -1, 0, 1, 2, 3, 2 ** 70, -2 ** 70, 0.0, 1.0, 0.5, float("nan"), 1j, "", "0", "a", "given", b"",
    b"\0", {}, {0: 0}, {0: (0, 0)}, set(), {0}, frozenset(), frozenset((1,)), range(0), range(2), object(), Own(), Sly(),
    len, int, Own, Ellipsis, (), [], RING,
)


def anything():
    """Such values, also within tuples and lists."""
    told = list(ATOMS)
    for value in ATOMS:
        told.extend(((value,), [value], (value, value), ((value,),), [[value]], ((value, 0),), ((0, value),), (0, value)))
    return told


def placed(row, place, value):
    """A row with another value at a place, a tuple."""
    return (*row[:place], value, *row[place + 1:])
