"""The desk, which keeps cases, rules and minds by names and is told rows of words."""

from besttelling.cases import Case
from besttelling.deskanswers import ANSWERS, MAKERS
from besttelling.deskrows import FORMS, read_row
from besttelling.errors import NoName, TooMany
from besttelling.minds import Mind

MOST_NAMES = 20
KINDS = ("case", "rule", "mind")
NEW = "new "


class Desk:
    """A desk."""

    def __init__(self):
        self.own_things = {}

    def say(self, row):
        """What the desk answers to a row."""
        head, words, against = read_row(row)
        slots = FORMS[head]
        self.check_known(slots, words)
        self.check_new(slots, words)
        if head == "names":
            return self.all_names()
        if head == "drop":
            del self.own_things[words[0]]
            return "ok"
        told = [self.meant(slot, word) for slot, word in zip(slots, words) if not slot.startswith(NEW)]
        if head in MAKERS:
            make = MAKERS[head]
            self.put(new_name(slots, words), make(told))
            return "ok"
        answer = ANSWERS[head]
        return answer(told, against)

    def check_known(self, slots, words):
        """Refuse the first name by which nothing stands, or something of another kind than is due."""
        for slot, word in zip(slots, words):
            if slot == "name" and word not in self.own_things:
                raise NoName(word)
            if slot in KINDS and (word not in self.own_things or kind_of(self.own_things[word]) != slot):
                raise NoName(word)

    def check_new(self, slots, words):
        """Refuse a new name by which something of another kind stands."""
        for slot, word in zip(slots, words):
            if slot.startswith(NEW) and word in self.own_things:
                if kind_of(self.own_things[word]) != slot.removeprefix(NEW):
                    raise NoName(word)

    def meant(self, slot, word):
        """The thing, number or text that a word stands for."""
        if slot == "text":
            return word
        return int(word) if slot == "number" else self.own_things[word]

    def put(self, name, thing):
        """Let a thing stand by a name."""
        many = len(self.own_things)
        if name not in self.own_things and many == MOST_NAMES:
            raise TooMany(many + 1)
        self.own_things[name] = thing

    def all_names(self):
        """All names, sorted."""
        return " ".join(sorted(self.own_things)) if len(self.own_things) > 0 else "-"

    def __len__(self):
        return len(self.own_things)


def kind_of(thing):
    """Which kind of thing it is, by the word that stands for it in rows."""
    if isinstance(thing, Case):
        return "case"
    return "mind" if isinstance(thing, Mind) else "rule"


def new_name(slots, words):
    """The new name among a row's words."""
    return [word for slot, word in zip(slots, words) if slot.startswith(NEW)][0]
