"""What several tests need: things of many kinds, fractions, rows, and an oracle for sums."""

from fractions import Fraction
import random

from besttelling.cases import Case
from besttelling.rules import Rule


class Sly:
    """Claims to be like everything, and to be as long and as full as one likes."""

    def __eq__(self, other):
        return True

    __hash__ = None

    def __len__(self):
        return 2

    def __iter__(self):
        return iter([(1, 2), (1, 2)])

    def __getitem__(self, at):
        return (1, 2)

    def __int__(self):
        return 1

    def __index__(self):
        return 1

    def __str__(self):
        return "1"


class Gruff:
    """Refuses to be compared, measured or written out."""

    def __eq__(self, other):
        raise AssertionError("compared")

    def __len__(self):
        raise AssertionError("measured")

    def __bool__(self):
        raise AssertionError("asked for its truth")

    def __str__(self):
        raise AssertionError("written out")

    __repr__ = __str__
    __hash__ = None


def plain_things():
    """Things of many kinds that are no lists, texts, tuples or whole numbers."""
    return [
        None, True, False, 0.0, 1.0, 1.5, float("nan"), float("inf"), 1j, Fraction(1, 2), b"", b"1", bytearray(b"1"),
        {}, {0: (1, 1)}, set(), {1}, frozenset([1]), range(2), iter([(1, 1)]), (one for one in [(1, 1)]),
        object(), int, list, len, lambda: 1, ValueError("1"), NotImplemented, ..., Sly(), Gruff(),
    ]


def no_wholes():
    """Things that are no whole numbers."""
    return plain_things() + ["", "1", "0", [], [1], [[1]], (), (1,), (2, 2)]


def no_texts():
    """Things that are no texts."""
    return plain_things() + [0, 1, -3, [], ["1"], [(1, 1)], (), ("1",), (1, 1)]


def no_lists():
    """Things that are no lists."""
    return plain_things() + [0, 1, -3, "", "1", (), (1, 1), ((1, 1),), ((1, 2), (1, 2))]


def no_ratios():
    """Things that are no fractions."""
    return no_wholes() + [
        0, 1, -1, [1, 2], [(1, 2)], "1/2", (1, 2, 3), (1, 2, 1), ((1, 2),), (1, 0), (0, 0), (1, -2), (-1, -2), (0, -1),
        (2, 4), (0, 2), (-2, 4), (-3, 3), (10 ** 29, 10), (True, 1), (1, True), (True, True), (False, 1), (0, True),
        (1, False), (1.0, 2), (1, 2.0), ("1", "2"), (None, 1), (1, None), ((1, 2), (1, 2)), ([1], [2]), (1, [2]),
        (1, Sly()), (Gruff(), 1), (Gruff(), Gruff()),
    ]


def no_shares(worlds):
    """Things that are no shares for so many worlds."""
    things = no_lists() + [[], [(1, 1)] + [(0, 1)] * worlds, [(0, 1)] * worlds]
    things += [[thing] + [(0, 1)] * (worlds - 1) for thing in no_ratios() + [(-1, 1), (2, 1), (1, 2)]]
    if worlds > 1:
        things += [[(1, 1)] * worlds, [(1, 1)] + [(0, 1)] * (worlds - 2), [(2, 1), (-1, 1)] + [(0, 1)] * (worlds - 2)]
        things += [[(0, 1)] * (worlds - 1) + [thing] for thing in no_ratios()]
    return things


def no_words(rule):
    """Things that are no words of a rule."""
    return no_wholes() + [-1, -len(rule), len(rule), len(rule) + 1, 10 ** 29, -(10 ** 29), (0,), [0]]


def ratio(worth):
    """The fraction that the oracle has."""
    worth = Fraction(worth)
    return (worth.numerator, worth.denominator)


def worth(one):
    """The oracle's number of a fraction."""
    return Fraction(one[0], one[1])


def some_ratios(many, seed, figures=3):
    """Fractions of few or many figures, below nought too, always the same ones."""
    dice = random.Random(seed)
    most = 10 ** figures
    return [ratio(Fraction(dice.randint(-most, most), dice.randint(1, most))) for _ in range(many)]


def share_row(many, dice, most=9):
    """A row of shares that come to 1, some of them nought."""
    parts = [dice.randint(0, most) for _ in range(many)]
    parts[dice.randrange(many)] += 1
    return [ratio(Fraction(part, sum(parts))) for part in parts]


def rule_rows(worlds, words, seed, most=9):
    """Rows of a rule, always the same ones."""
    dice = random.Random(f"{worlds} {words} {seed}")
    return [share_row(words, dice, most) for _ in range(worlds)]


def gain_rows(worlds, deeds, seed):
    """Gains of a case, some below nought, always the same ones."""
    ratios = some_ratios(worlds * deeds, f"{worlds} {deeds} {seed}")
    return [ratios[world * deeds:(world + 1) * deeds] for world in range(worlds)]


def case_parts(worlds, deeds, seed=0):
    """Shares, hearer and teller of a case, new lists all of them."""
    shares = share_row(worlds, random.Random(f"{worlds} {deeds} {seed}"))
    return shares, gain_rows(worlds, deeds, f"hearer {seed}"), gain_rows(worlds, deeds, f"teller {seed}")


def lists_in(told):
    """A list and all lists within it."""
    found = [told]
    for thing in told:
        if isinstance(thing, list):
            found.extend(lists_in(thing))
    return found


def spoil(told):
    """Change a list and all lists within it."""
    for one in lists_in(told):
        one.clear()
        one.append("spoilt")


def row_worths(row):
    """The oracle's numbers of a row of fractions."""
    return [worth(one) for one in row]


def one_gain(kind, dice):
    """A gain of one of the kinds of drawn cases."""
    if kind == "tied":
        return dice.randint(-1, 1)
    if kind == "near":
        return 123456789012 + Fraction(dice.randint(-2, 2), 10 ** 9)
    if kind == "alike":
        return Fraction(-7, 3)
    return Fraction(dice.randint(-99, 99), dice.randint(1, 9))


def drawn_case(worlds, deeds, kind="mixed", seed=0):
    """A case whose gains often tie, nearly tie, are all alike or mixed; shares of nought are among them."""
    dice = random.Random(f"{worlds} {deeds} {kind} {seed}")
    hearer, teller = [[[ratio(one_gain(kind, dice)) for _ in range(deeds)] for _ in range(worlds)] for _ in range(2)]
    return Case(share_row(worlds, dice, 3), hearer, teller)


def drawn_cases(seeds=1):
    """Cases of all sizes and kinds, always the same ones."""
    return [drawn_case(worlds, deeds, kind, seed) for worlds in range(1, 6) for deeds in range(1, 7)
            for kind in ("tied", "near", "alike", "mixed") for seed in range(seeds)]


def drawn_rule(worlds, words, seed=0):
    """A rule some of whose words are seldom or never said."""
    return Rule(rule_rows(worlds, words, seed, 2))


def reckoned_masses(case, rule, word):
    """For each world how often it is there and the word is said."""
    return [worth(share) * worth(row[word]) for share, row in zip(case.shares(), rule.rows())]


def reckoned_worths(rows, weights):
    """For each deed the sum over the worlds of weights times gains."""
    return [sum(weight * worth(row[deed]) for weight, row in zip(weights, rows)) for deed in range(len(rows[0]))]


def reckoned_deed(case, weights, against):
    """The deed that is done by weights."""
    hearer, teller = reckoned_worths(case.hearer(), weights), reckoned_worths(case.teller(), weights)
    sign = 1 if against else -1
    return min(range(len(hearer)), key=lambda deed: (-hearer[deed], sign * teller[deed], deed))


def reckoned_gains(case, rule, against):
    """What teller and hearer gain by a rule."""
    gained = [Fraction(0), Fraction(0)]
    for word in range(len(rule)):
        weights = reckoned_masses(case, rule, word)
        deed = reckoned_deed(case, weights, against)
        gained[0] += reckoned_worths(case.teller(), weights)[deed]
        gained[1] += reckoned_worths(case.hearer(), weights)[deed]
    return tuple(gained)


def whole_case(shares, hearer, teller):
    """A case whose gains are whole numbers."""
    return Case(shares, *[[[(one, 1) for one in row] for row in rows] for rows in (hearer, teller)])


def sure_shares(worlds, world):
    """Shares all of which lie in one world."""
    return [(1, 1) if other == world else (0, 1) for other in range(worlds)]


def dear(case, instead):
    """The least prices on worlds, reckoned here."""
    deeds = range(case.deeds())
    return [max(worth(teller[d]) + sum(worth(instead[d][e]) * (worth(hearer[d]) - worth(hearer[e])) for e in deeds)
                for d in deeds) for hearer, teller in zip(case.hearer(), case.teller())]


def drawn_instead(deeds, seed):
    """Prices on deeds that might be done instead, drawn."""
    dice = random.Random(f"{deeds} {seed}")
    return [[ratio(0 if d == e else Fraction(dice.randint(0, 9), dice.randint(1, 4))) for e in range(deeds)]
            for d in range(deeds)]


def copied(told):
    """A new list, those within it new ones too."""
    return [copied(thing) if isinstance(thing, list) else thing for thing in told]
