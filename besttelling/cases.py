"""Cases: the shares of the worlds, and what hearer and teller gain in each world by each deed."""

from besttelling.errors import NoCase
from besttelling.ratios import total
from besttelling.rows import MOST_DEEDS, MOST_WORLDS, copied_rows, is_list_of, is_ratio_row, is_share, wrong_row


class Case:
    """A case, which never changes."""

    def __init__(self, shares, hearer, teller):
        check_shares(shares)
        check_gains("hearer", hearer, len(shares), 1, MOST_DEEDS)
        deeds = len(hearer[0])
        check_gains("teller", teller, len(shares), deeds, deeds)
        self.own_shares = list(shares)
        self.own_hearer = copied_rows(hearer)
        self.own_teller = copied_rows(teller)

    def worlds(self):
        """How many worlds there are."""
        return len(self.own_shares)

    def deeds(self):
        """How many deeds there are."""
        return len(self.own_hearer[0])

    def shares(self):
        """The worlds' shares."""
        return list(self.own_shares)

    def hearer(self):
        """What the hearer gains, for each world a list of all deeds' gains."""
        return copied_rows(self.own_hearer)

    def teller(self):
        """What the teller gains, for each world a list of all deeds' gains."""
        return copied_rows(self.own_teller)

    def with_shares(self, shares):
        """The case with other shares of as many worlds."""
        # A new Case alone would take the worlds' number from these shares, and refuse the hearer instead.
        if not is_list_of(shares, self.worlds(), self.worlds()):
            raise NoCase("shares", None)
        return Case(shares, self.own_hearer, self.own_teller)

    def __len__(self):
        return len(self.own_shares)

    def __eq__(self, other):
        return (isinstance(other, Case) and self.own_shares == other.own_shares
                and self.own_hearer == other.own_hearer and self.own_teller == other.own_teller)

    def __str__(self):
        return f"{self.worlds()} worlds, {self.deeds()} deeds"

    def __repr__(self):
        return f"Case({self.own_shares!r}, {self.own_hearer!r}, {self.own_teller!r})"


def check_shares(shares):
    """Refuse what is no list of shares of 1 to 5 worlds."""
    if not is_list_of(shares, 1, MOST_WORLDS):
        raise NoCase("shares", None)
    for number, share in enumerate(shares):
        if not is_share(share):
            raise NoCase("shares", number)
    if total(shares) != (1, 1):
        raise NoCase("shares", None)


def check_gains(part, rows, worlds, least, most):
    """Refuse what is no list of least to most deeds' gains for each world."""
    if not is_list_of(rows, worlds, worlds):
        raise NoCase(part, None)
    wrong = wrong_row(rows, is_ratio_row, least, most)
    if wrong is not None:
        raise NoCase(part, wrong)
