"""What the desk makes and answers.

`told` is always the list of what a row's words stand for: things, numbers and texts, without the new name.
"""

from besttelling.against import limit
from besttelling.ahead import lost
from besttelling.cases import Case
from besttelling.casetexts import read, shown
from besttelling.doing import deeds_done, gains
from besttelling.fewwords import few
from besttelling.figures import shown_ratio, shown_row
from besttelling.minds import Mind
from besttelling.mosts import most
from besttelling.roofs import helps
from besttelling.ruletexts import read_rule


def make_case(told):
    """The case that a text writes."""
    return read(told[0])


def make_rule(told):
    """The rule that a text writes."""
    return read_rule(told[0])


def make_advice(told):
    """The advice that gains the most."""
    return most(told[0])[1]


def make_few(told):
    """The rule of few words that gains the most."""
    return few(told[0])


def make_mind(told):
    """A mind of a case."""
    return Mind(told[0])


def answer_show(told, against):
    """A thing's text."""
    thing = told[0]
    if isinstance(thing, Mind):
        return shown_row(thing.beliefs())
    return shown(thing) if isinstance(thing, Case) else str(thing)


def answer_most(told, against):
    """The most."""
    return shown_ratio(most(told[0])[0])


def answer_gains(told, against):
    """What teller and hearer gain."""
    return shown_row(gains(told[0], told[1], against))


def answer_deeds(told, against):
    """For each word the deed done."""
    done = deeds_done(told[0], told[1], against)
    return " ".join(["-" if deed is None else str(deed) for deed in done])


def answer_helps(told, against):
    """Whether telling helps."""
    return "yes" if helps(told[0]) else "no"


def answer_lost(told, against):
    """What is lost by a rule heard ahead."""
    return shown_ratio(lost(told[0], told[1]))


def answer_limit(told, against):
    """The limit with ties against."""
    return shown_ratio(limit(told[0]))


def answer_hear(told, against):
    """A mind hears a word."""
    told[0].hear(told[1], told[2])
    return "ok"


def answer_forget(told, against):
    """A mind forgets words."""
    told[0].forget(told[1])
    return "ok"


def answer_deed(told, against):
    """The deed that a mind does."""
    return str(told[0].deed(against))


MAKERS = {
    "case": make_case,
    "rule": make_rule,
    "advise": make_advice,
    "few": make_few,
    "mind": make_mind,
}
ANSWERS = {
    "show": answer_show,
    "most": answer_most,
    "gains": answer_gains,
    "deeds": answer_deeds,
    "helps": answer_helps,
    "lost": answer_lost,
    "limit": answer_limit,
    "hear": answer_hear,
    "forget": answer_forget,
    "deed": answer_deed,
}
