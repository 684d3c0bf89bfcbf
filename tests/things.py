"""What several tests need: things of many kinds, fractions, rows, and an oracle for sums."""

from fractions import Fraction
import random


class Sly:
    """Claims to be like everything, and to be as long and as full as one likes."""

    def __eq__(self, other):
        return True

    __hash__ = None

    def __len__(self):
        return 2

    def __iter__(self):
        return iter([(1, 2), (1, 2)])

    def __getitem__(self, at):
        return (1, 2)

    def __int__(self):
        return 1

    def __index__(self):
        return 1

    def __str__(self):
        return "1"


class Gruff:
    """Refuses to be compared, measured or written out."""

    def __eq__(self, other):
        raise AssertionError("compared")

    def __len__(self):
        raise AssertionError("measured")

    def __bool__(self):
        raise AssertionError("asked for its truth")

    def __str__(self):
        raise AssertionError("written out")

    __repr__ = __str__
    __hash__ = None


def plain_things():
    """Things of many kinds that are no lists, texts, tuples or whole numbers."""
    return [
        None, True, False, 0.0, 1.0, 1.5, float("nan"), float("inf"), 1j, Fraction(1, 2), b"", b"1", bytearray(b"1"),
        {}, {0: (1, 1)}, set(), {1}, frozenset([1]), range(2), iter([(1, 1)]), (one for one in [(1, 1)]),
        object(), int, list, len, lambda: 1, ValueError("1"), NotImplemented, ..., Sly(), Gruff(),
    ]


def no_wholes():
    """Things that are no whole numbers."""
    return plain_things() + ["", "1", "0", [], [1], [[1]], (), (1,), (2, 2)]


def no_texts():
    """Things that are no texts."""
    return plain_things() + [0, 1, -3, [], ["1"], [(1, 1)], (), ("1",), (1, 1)]


def no_lists():
    """Things that are no lists."""
    return plain_things() + [0, 1, -3, "", "1", (), (1, 1), ((1, 1),), ((1, 2), (1, 2))]


def no_ratios():
    """Things that are no fractions."""
    return no_wholes() + [
        0, 1, -1, [1, 2], [(1, 2)], "1/2", (1, 2, 3), (1, 2, 1), ((1, 2),), (1, 0), (0, 0), (1, -2), (-1, -2), (0, -1),
        (2, 4), (0, 2), (-2, 4), (-3, 3), (10 ** 29, 10), (True, 1), (1, True), (True, True), (False, 1), (0, True),
        (1, False), (1.0, 2), (1, 2.0), ("1", "2"), (None, 1), (1, None), ((1, 2), (1, 2)), ([1], [2]), (1, [2]),
        (1, Sly()), (Gruff(), 1), (Gruff(), Gruff()),
    ]


def ratio(worth):
    """The fraction that the oracle has."""
    worth = Fraction(worth)
    return (worth.numerator, worth.denominator)


def worth(one):
    """The oracle's number of a fraction."""
    return Fraction(one[0], one[1])


def some_ratios(many, seed, figures=3):
    """Fractions of few or many figures, below nought too, always the same ones."""
    dice = random.Random(seed)
    most = 10 ** figures
    return [ratio(Fraction(dice.randint(-most, most), dice.randint(1, most))) for _ in range(many)]


def share_row(many, dice, most=9):
    """A row of shares that come to 1, some of them nought."""
    parts = [dice.randint(0, most) for _ in range(many)]
    parts[dice.randrange(many)] += 1
    return [ratio(Fraction(part, sum(parts))) for part in parts]


def rule_rows(worlds, words, seed, most=9):
    """Rows of a rule, always the same ones."""
    dice = random.Random(f"{worlds} {words} {seed}")
    return [share_row(words, dice, most) for _ in range(worlds)]


def gain_rows(worlds, deeds, seed):
    """Gains of a case, some below nought, always the same ones."""
    ratios = some_ratios(worlds * deeds, f"{worlds} {deeds} {seed}")
    return [ratios[world * deeds:(world + 1) * deeds] for world in range(worlds)]


def case_parts(worlds, deeds, seed=0):
    """Shares, hearer and teller of a case, new lists all of them."""
    shares = share_row(worlds, random.Random(f"{worlds} {deeds} {seed}"))
    return shares, gain_rows(worlds, deeds, f"hearer {seed}"), gain_rows(worlds, deeds, f"teller {seed}")


def lists_in(told):
    """A list and all lists within it."""
    found = [told]
    for thing in told:
        if isinstance(thing, list):
            found.extend(lists_in(thing))
    return found


def spoil(told):
    """Change a list and all lists within it."""
    for one in lists_in(told):
        one.clear()
        one.append("spoilt")
