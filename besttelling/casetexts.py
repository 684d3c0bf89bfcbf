"""Texts of cases."""

from besttelling.cases import Case
from besttelling.errors import NoText
from besttelling.figures import row_of, shown_row

HEADS = ("shares ", "hearer ", "teller ")


def shown(case):
    """A case's text."""
    bodies = [shown_row(case.shares()), shown_rows(case.hearer()), shown_rows(case.teller())]
    return "; ".join([head + body for head, body in zip(HEADS, bodies)])


def read(text):
    """The case whose text it is, or NoText, NoCase, of anything."""
    if not isinstance(text, str):
        raise NoText(0)
    parts = text.split("; ")
    shares = rows_in(parts, 0)
    # Shares are one row: what would part worlds does not belong there.
    if len(shares) != 1:
        raise NoText(0)
    hearer = rows_in(parts, 1)
    teller = rows_in(parts, 2)
    if len(parts) > len(HEADS):
        raise NoText(len(HEADS))
    return Case(shares[0], hearer, teller)


def shown_rows(rows):
    """The text of rows of fractions, one for each world."""
    return " | ".join([shown_row(row) for row in rows])


def rows_in(parts, number):
    """The rows of fractions in a part, which its own word begins; NoText where it lacks or is not so."""
    if len(parts) <= number or not parts[number].startswith(HEADS[number]):
        raise NoText(number)
    rows = [row_of(row) for row in parts[number].removeprefix(HEADS[number]).split(" | ")]
    if None in rows:
        raise NoText(number)
    return rows
