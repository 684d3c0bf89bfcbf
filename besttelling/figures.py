"""Texts of fractions, and of rows of them."""

from besttelling.errors import NoText
from besttelling.ratios import is_ratio


def shown_ratio(one):
    """A fraction's text."""
    top, bottom = one
    if bottom == 1:
        return str(top)
    return f"{top}/{bottom}"


def read_ratio(text):
    """The fraction whose text it is, or NoText, of anything."""
    one = ratio_of(text)
    if one is None:
        raise NoText(0)
    return one


def ratio_of(text):
    """The fraction whose text it is, or None where it, of any kind, is none."""
    if not isinstance(text, str):
        return None
    top, slash, bottom = text.partition("/")
    if top == "-0" or not is_figures(top.removeprefix("-")):
        return None
    if slash == "":
        return (int(top), 1)
    # A bottom of 1 is not written out.
    if bottom == "1" or not is_figures(bottom):
        return None
    one = (int(top), int(bottom))
    return one if is_ratio(one) else None


def is_figures(text):
    """Whether a text is a number in figures, without a nought ahead but in 0 itself."""
    # Signs of other scripts are figures to isdigit, too.
    if not text.isascii() or not text.isdigit():
        return False
    return text == "0" or not text.startswith("0")


def shown_row(row):
    """The text of a row of fractions."""
    return " ".join([shown_ratio(one) for one in row])


def row_of(text):
    """The row of fractions that a text writes, parted by one blank each, or None where it writes none."""
    row = [ratio_of(word) for word in text.split(" ")]
    return None if None in row else row
