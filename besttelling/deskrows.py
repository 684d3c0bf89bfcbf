"""Rows that the desk is told, read: which words may stand where."""

from besttelling.errors import NoRow
from besttelling.figures import is_figures

# What stands behind each first word: the name of a thing of a kind, or of any thing; a new name for a thing of a kind;
# a number; a text, which is all the rest of its row.
FORMS = {
    "case": ("new case", "text"),
    "rule": ("new rule", "text"),
    "drop": ("name",),
    "names": (),
    "show": ("name",),
    "most": ("case",),
    "advise": ("case", "new rule"),
    "few": ("case", "new rule"),
    "gains": ("case", "rule"),
    "deeds": ("case", "rule"),
    "helps": ("case",),
    "lost": ("case", "rule"),
    "limit": ("case",),
    "mind": ("new mind", "case"),
    "hear": ("mind", "rule", "number"),
    "forget": ("mind", "number"),
    "deed": ("mind",),
}
WITH_AGAINST = ("gains", "deeds", "deed")
LETTERS = "abcdefghijklmnopqrstuvwxyz"
MOST_LETTERS = 8
MOST_FIGURES = 4


def read_row(row):
    """A row's first word, a list of what stands behind it, and whether its last word is `against`; or NoRow."""
    if not isinstance(row, str) or "\n" in row:
        raise NoRow()
    head = row.partition(" ")[0]
    if head not in FORMS:
        raise NoRow()
    slots = FORMS[head]
    words = row.split(" ", 2)[1:] if "text" in slots else row.split(" ")[1:]
    against = head in WITH_AGAINST and len(words) > len(slots) and words[-1] == "against"
    if against:
        words = words[:-1]
    if len(words) != len(slots) or not all([fits(slot, word) for slot, word in zip(slots, words)]):
        raise NoRow()
    return (head, words, against)


def fits(slot, word):
    """Whether a word may stand in a slot."""
    if slot == "text":
        return True
    if slot == "number":
        return is_figures(word) and len(word) <= MOST_FIGURES
    return is_name(word)


def is_name(word):
    """Whether a word is one to eight small letters."""
    return 1 <= len(word) <= MOST_LETTERS and all([sign in LETTERS for sign in word])
