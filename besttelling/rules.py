"""Rules of telling: for each world the shares in which each word is said."""

from besttelling.errors import NoRule
from besttelling.figures import shown_row
from besttelling.rows import MOST_WORDS, MOST_WORLDS, copied_rows, is_list_of, is_share_row, wrong_row


class Rule:
    """A rule, which never changes."""

    def __init__(self, rows):
        if not is_list_of(rows, 1, MOST_WORLDS):
            raise NoRule(None)
        wrong = wrong_row(rows, is_share_row, 1, MOST_WORDS)
        if wrong is not None:
            raise NoRule(wrong)
        self.own_rows = copied_rows(rows)

    def rows(self):
        """The shares of the words, a list for each world."""
        return copied_rows(self.own_rows)

    def worlds(self):
        """How many worlds there are."""
        return len(self.own_rows)

    def __len__(self):
        return len(self.own_rows[0])

    def __eq__(self, other):
        return isinstance(other, Rule) and self.own_rows == other.own_rows

    def __str__(self):
        return " | ".join([shown_row(row) for row in self.own_rows])

    def __repr__(self):
        return f"Rule({str(self)!r})"
