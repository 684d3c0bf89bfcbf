"""Texts of rules, read."""

from besttelling.errors import NoRule, NoText
from besttelling.figures import row_of
from besttelling.rows import MOST_WORLDS
from besttelling.rules import Rule


def read_rule(text):
    """The rule whose text it is, or NoText, of anything."""
    if not isinstance(text, str):
        raise NoText(0)
    rows = [row_of(part) for part in text.split(" | ")]
    try:
        rule = Rule(rows[:MOST_WORLDS])
    except NoRule as wrong:
        raise NoText(wrong.world) from None
    if len(rows) > MOST_WORLDS:
        raise NoText(MOST_WORLDS)
    return rule
