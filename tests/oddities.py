"""Things of kinds that nobody asked for, to be handed in where an answer is told for whatever it is."""

from fractions import Fraction


class Touchy:
    """Fails on whatever is asked of it; is neither a number nor a tuple."""

    def __eq__(self, other):
        raise RuntimeError("compared")

    def __bool__(self):
        raise RuntimeError("asked for its truth")

    def __len__(self):
        raise RuntimeError("asked for its length")

    def __iter__(self):
        raise RuntimeError("walked")

    def __getitem__(self, key):
        raise RuntimeError("indexed")

    def __repr__(self):
        return "Touchy()"


NO_WHOLES = [
    True, False, None, "", "1", "12", "a", b"1", 1.0, 0.5, 1j, float("nan"), Fraction(1, 2), (), (1,), (1, 2),
    [], [1], [1, 2], {}, {1: 2}, {1}, frozenset([1]), range(2), object(), int, len, Touchy(),
]
