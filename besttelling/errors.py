"""All refusals, each with the fields that it was made of.

Fields may be things of any kind, so no refusal's words show them: writing them out could fail.
"""


class NoNumber(ValueError):
    """Not the whole number that is due."""

    def __init__(self, number):
        ValueError.__init__(self, "this is not the whole number that is due")
        self.number = number


class NoText(ValueError):
    """Not the text that is due."""

    def __init__(self, part):
        ValueError.__init__(self, "a part of this is not the text that is due")
        self.part = part


class NoCase(ValueError):
    """Shares, hearer and teller that make no case."""

    def __init__(self, part, number):
        ValueError.__init__(self, "these shares, hearer and teller make no case")
        self.part = part
        self.number = number


class NoRule(ValueError):
    """Rows that make no rule."""

    def __init__(self, world):
        ValueError.__init__(self, "these rows make no rule")
        self.world = world


class NoBeliefs(ValueError):
    """No beliefs for the case's worlds."""

    def __init__(self):
        ValueError.__init__(self, "these are no beliefs for the worlds")


class NoShares(ValueError):
    """No shares for the case's worlds."""

    def __init__(self):
        ValueError.__init__(self, "these are no shares for the worlds")


class NoAdvice(ValueError):
    """A rule with another number of words than there are deeds."""

    def __init__(self, words):
        ValueError.__init__(self, "advice has one word for each deed")
        self.words = words


class NoGroups(ValueError):
    """Not a group's number for each word."""

    def __init__(self, word):
        ValueError.__init__(self, "these are no groups of the words")
        self.word = word


class NoHearers(ValueError):
    """Not a list of hearers."""

    def __init__(self, number):
        ValueError.__init__(self, "these are no hearers for the worlds")
        self.number = number


class NoCounts(ValueError):
    """Not a list of numbers of deeds."""

    def __init__(self):
        ValueError.__init__(self, "these are no numbers of deeds")


class NoOrder(ValueError):
    """Not a list of all numbers, each once."""

    def __init__(self, part):
        ValueError.__init__(self, "an order has each number once")
        self.part = part


class NoRow(ValueError):
    """Not a row that the desk knows."""

    def __init__(self):
        ValueError.__init__(self, "the desk knows no such row")


class Unlike(ValueError):
    """Two things of different numbers of worlds."""

    def __init__(self, one, other):
        ValueError.__init__(self, "these have different numbers of worlds")
        self.one = one
        self.other = other


class NotTwo(ArithmeticError):
    """A case of another number of worlds than two."""

    def __init__(self, many):
        ArithmeticError.__init__(self, "this is told of two worlds only")
        self.many = many


class ByNought(ZeroDivisionError):
    """A quotient by nought."""

    def __init__(self):
        ZeroDivisionError.__init__(self, "nothing is divided by nought")


class TooMany(OverflowError):
    """More words or names than there may be."""

    def __init__(self, many):
        OverflowError.__init__(self, "there would be too many")
        self.many = many


class NoWord(IndexError):
    """Not a word of the rule."""

    def __init__(self, word):
        IndexError.__init__(self, "the rule has no such word")
        self.word = word


class NoDeed(IndexError):
    """Not a deed of the case."""

    def __init__(self, number):
        IndexError.__init__(self, "the case has no such deed")
        self.number = number


class NoName(KeyError):
    """A name by which nothing that is due stands."""

    def __init__(self, name):
        KeyError.__init__(self, "nothing that is due stands by this name")
        self.name = name


class Unsaid(LookupError):
    """A word whose chance is nought."""

    def __init__(self, word):
        LookupError.__init__(self, "this word is never said")
        self.word = word


class NoPart(LookupError):
    """Not the fraction that is due."""

    def __init__(self, part):
        LookupError.__init__(self, "this is not the fraction that is due")
        self.part = part


class Bare(RuntimeError):
    """Fewer words were heard than are to be forgotten."""

    def __init__(self, many):
        RuntimeError.__init__(self, "fewer words were heard than this")
        self.many = many
