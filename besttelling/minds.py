"""Minds, which hear word by word."""

from besttelling.doing import deed_by
from besttelling.errors import Bare, NoNumber
from besttelling.hearing import behind
from besttelling.ratios import is_whole


class Mind:
    """A hearer's mind; behind each word that it heard it keeps the case with its beliefs then as shares."""

    def __init__(self, case):
        self.own_case = case
        self.own_trail = []

    def hear(self, rule, word):
        """Hear a word of a rule."""
        self.own_trail.append(behind(self.now(), rule, word))

    def forget(self, many=1):
        """Forget the last words heard, so many of them."""
        if not is_whole(many) or many < 1:
            raise NoNumber(many)
        if many > len(self.own_trail):
            raise Bare(many)
        self.own_trail = self.own_trail[:-many]

    def beliefs(self):
        """What it believes, a fraction for each world."""
        return self.now().shares()

    def heard(self):
        """How many words it heard."""
        return len(self.own_trail)

    def deed(self, against=False):
        """The deed that it does, with ties for the teller or against."""
        return deed_by(self.now(), self.beliefs(), against)

    def case(self):
        """The case that it is made of."""
        return self.own_case

    def twin(self):
        """A new mind of the same case that heard the same."""
        other = Mind(self.own_case)
        other.own_trail = list(self.own_trail)
        return other

    def now(self):
        """The case with its beliefs as shares."""
        return self.own_trail[-1] if len(self.own_trail) > 0 else self.own_case

    def __len__(self):
        return len(self.own_trail)

    def __eq__(self, other):
        return isinstance(other, Mind) and self.own_case == other.own_case and self.beliefs() == other.beliefs()
