"""The desk: its rows, its answers and its refusals (points 29 and 30)."""

import random
import unittest

from besttelling.against import limit
from besttelling.ahead import lost
from besttelling.cases import Case
from besttelling.casetexts import read, shown
from besttelling.desk import Desk
from besttelling.doing import deeds_done, gains
from besttelling.errors import (
    Bare, NoCase, NoName, NoNumber, NoRow, NoText, NotTwo, NoWord, TooMany, Unlike, Unsaid,
)
from besttelling.fewwords import few
from besttelling.minds import Mind
from besttelling.mosts import most
from besttelling.roofs import helps
from besttelling.rules import Rule
from besttelling.ruletexts import read_rule
from tests.things import drawn_case, drawn_rule, no_texts, worth

JUDGE = "shares 7/10 3/10; hearer 1 0 | 0 1; teller 0 1 | 0 1"
EVEN = "shares 1/2 1/2; hearer 1 0 | 0 1; teller 0 1 | 0 1"
LONE = "shares 1; hearer 1 0; teller 0 1"
HEADS = ("case rule drop names show most advise few gains deeds helps lost limit mind hear forget deed").split()


def told(*rows):
    """A desk that was told rows."""
    desk = Desk()
    for row in rows:
        desk.say(row)
    return desk


def filled():
    """A desk with two cases, two rules and a mind, one of another number of worlds among each of the first ones."""
    return told(f"case j {JUDGE}", f"case one {LONE}", "rule r 1 0 0 | 1/3 2/3 0", "rule solo 1/2 1/2", "mind m j", "hear m r 0")


def look(desk):
    """Names, texts, beliefs, deeds, and how many names."""
    names = desk.say("names").split(" ") if len(desk) > 0 else []
    seen = [(name, desk.say(f"show {name}")) for name in names]
    for name in names:
        try:
            seen.append((desk.say(f"deed {name}"), desk.say(f"deed {name} against")))
        except NoName:
            seen.append(name)
    return (desk.say("names"), len(desk), seen)


class Answers(unittest.TestCase):
    def said(self, desk, row, answer):
        found = desk.say(row)
        self.assertIsInstance(found, str)
        self.assertEqual(found, answer, row)

    def test_new_desk(self):
        desk = Desk()
        self.assertEqual(len(desk), 0)
        self.said(desk, "names", "-")

    def test_every_row_by_hand(self):
        desk = Desk()
        for row, answer in [
                (f"case j {JUDGE}", "ok"), ("names", "j"), ("show j", JUDGE), ("most j", "3/5"), ("helps j", "yes"),
                ("limit j", "3/5"), ("rule all 1 0 | 0 1", "ok"), ("names", "all j"), ("show all", "1 0 | 0 1"),
                ("gains j all", "3/10 1"), ("gains j all against", "3/10 1"), ("deeds j all", "0 1"),
                ("deeds j all against", "0 1"), ("lost j all", "3/10"), ("rule never 1 0 0 | 1 0 0", "ok"),
                ("deeds j never", "0 - -"), ("deeds j never against", "0 - -"), ("gains j never", "0 7/10"),
                ("advise j best", "ok"), ("show best", "4/7 3/7 | 0 1"), ("gains j best", "3/5 7/10"),
                ("gains j best against", "0 7/10"), ("deeds j best", "0 1"), ("deeds j best against", "0 0"),
                ("lost j best", "0"), ("few j some", "ok"), ("gains j some", "3/5 7/10"), ("mind m j", "ok"),
                ("show m", "7/10 3/10"), ("deed m", "0"), ("hear m best 1", "ok"), ("show m", "1/2 1/2"), ("deed m", "1"),
                ("deed m against", "0"), ("hear m all 1", "ok"), ("show m", "0 1"), ("deed m against", "1"),
                ("forget m 1", "ok"), ("show m", "1/2 1/2"), ("hear m all 0", "ok"), ("forget m 2", "ok"),
                ("show m", "7/10 3/10"), ("names", "all best j m never some"), ("drop never", "ok"), ("drop best", "ok"),
                ("names", "all j m some"), (f"case e {EVEN}", "ok"), ("helps e", "no"), ("limit e", "1"), ("most e", "1"),
                ("few e some", "ok"), ("show some", "1 | 1"), ("drop j", "ok"), ("show m", "7/10 3/10")]:
            self.said(desk, row, answer)
        self.assertEqual(len(desk), 4)
        self.assertEqual(desk.say(row="names"), "all e m some")

    def test_as_the_functions_tell(self):
        for number in range(40):
            case = drawn_case(1 + number % 5, 1 + number % 6, ("tied", "mixed")[number % 2], f"desk {number}")
            rule = drawn_rule(case.worlds(), 1 + number % 4, number)
            desk = told(f"case c {shown(case)}", f"rule r {rule}")
            self.said(desk, "show c", shown(case))
            self.said(desk, "show r", str(rule))
            self.said(desk, "most c", str(worth(most(case)[0])))
            self.said(desk, "helps c", "yes" if helps(case) else "no")
            self.said(desk, "lost c r", str(worth(lost(case, rule))))
            if case.worlds() == 2:
                self.said(desk, "limit c", str(worth(limit(case))))
            for behind, against in (("", False), (" against", True)):
                self.said(desk, f"gains c r{behind}", " ".join(str(worth(one)) for one in gains(case, rule, against)))
                done = deeds_done(case, rule, against)
                self.said(desk, f"deeds c r{behind}", " ".join("-" if one is None else str(one) for one in done))
            self.said(desk, "advise c a", "ok")
            self.said(desk, "show a", str(most(case)[1]))
            self.said(desk, "few c f", "ok")
            self.said(desk, "show f", str(few(case)))
            mind = Mind(case)
            self.said(desk, "mind m c", "ok")
            for word in range(len(rule)):
                try:
                    mind.hear(rule, word)
                except Unsaid:
                    with self.assertRaises(Unsaid):
                        desk.say(f"hear m r {word}")
                    continue
                self.said(desk, f"hear m r {word}", "ok")
                self.said(desk, "show m", " ".join(str(worth(one)) for one in mind.beliefs()))
                self.said(desk, "deed m", str(mind.deed()))
                self.said(desk, "deed m against", str(mind.deed(True)))
            self.said(desk, f"forget m {mind.heard()}", "ok")
            self.said(desk, "show m", " ".join(str(worth(one)) for one in case.shares()))

    def test_against_as_a_name(self):
        desk = told(f"case j {EVEN}")
        self.said(desk, "rule against 1 | 1", "ok")
        self.said(desk, "gains j against", "1 1/2")
        self.said(desk, "gains j against against", "0 1/2")
        self.said(desk, "deeds j against", "1")
        self.said(desk, "deeds j against against", "0")
        self.said(desk, "drop against", "ok")
        self.said(desk, "mind against j", "ok")
        self.said(desk, "deed against", "1")
        self.said(desk, "deed against against", "0")
        self.said(desk, "drop against", "ok")
        self.said(desk, f"case against {EVEN}", "ok")
        self.said(desk, "rule r 1 | 1", "ok")
        self.said(desk, "gains against r", "1 1/2")
        self.said(desk, "gains against r against", "0 1/2")
        self.said(desk, "most against", "1")
        for row, name in (("gains j against", "against"), ("gains against against against", "against"), ("deed against", "against")):
            with self.assertRaises(NoName) as caught:
                desk.say(row)
            self.assertEqual(caught.exception.name, name)

    def test_names_that_are_words_of_rows(self):
        for name in HEADS + ["a", "z", "abcdefgh", "zzzzzzzz", "ok", "yes", "shares", "new", "text"]:
            desk = told(f"case {name} {EVEN}")
            self.said(desk, "names", name)
            self.said(desk, f"most {name}", "1")
            self.said(desk, f"mind m {name}", "ok")
            self.said(desk, f"drop {name}", "ok")
            self.said(desk, f"rule {name} 1 | 1", "ok")
            self.said(desk, f"hear m {name} 0", "ok")
            self.said(desk, f"show {name}", "1 | 1")

    def test_names_are_sorted(self):
        names = "b a ab aa z zz m abc ba".split()
        desk = Desk()
        for number, name in enumerate(names):
            self.said(desk, f"rule {name} 1" if number % 2 else f"case {name} {LONE}", "ok")
            self.said(desk, "names", " ".join(sorted(names[:number + 1])))
            self.assertEqual(len(desk), number + 1)

    def test_put_in_the_stead_of_the_same_kind(self):
        desk = filled()
        many = len(desk)
        for row, name, text in [
                (f"case j {EVEN}", "j", EVEN), ("rule r 1 0 | 0 1", "r", "1 0 | 0 1"), ("few j r", "r", "1 | 1"),
                ("advise one r", "r", "0 1"), ("mind m j", "m", "1/2 1/2"), (f"case j {LONE}", "j", LONE), ("mind m j", "m", "1")]:
            self.said(desk, row, "ok")
            self.assertEqual(len(desk), many)
            if row != "advise one r":
                self.said(desk, f"show {name}", text)
        # A new mind heard nothing.
        with self.assertRaises(Bare):
            desk.say("forget m 1")

    def test_case_with_the_name_of_its_own_mind_and_rule(self):
        desk = told(f"case j {JUDGE}")
        with self.assertRaises(NoName) as caught:
            desk.say("advise j j")
        self.assertEqual(caught.exception.name, "j")
        self.said(desk, "show j", JUDGE)

    def test_a_mind_keeps_its_case_and_hears_the_rule_that_stands_there(self):
        desk = told(f"case j {JUDGE}", "mind m j", "rule r 1 0 | 0 1", f"case j {EVEN}")
        self.said(desk, "show m", "7/10 3/10")
        self.said(desk, "rule r 1 0 | 1/2 1/2", "ok")
        self.said(desk, "hear m r 0", "ok")
        self.said(desk, "show m", "14/17 3/17")
        self.said(desk, "rule r 1 | 1", "ok")
        self.said(desk, "show m", "14/17 3/17")
        self.said(desk, "drop j", "ok")
        self.said(desk, f"case j {LONE}", "ok")
        self.said(desk, "forget m 1", "ok")
        self.said(desk, "show m", "7/10 3/10")
        self.said(desk, "hear m r 0", "ok")
        self.said(desk, "deed m", "0")
        # A mind made of a case that stands there now is one of its own.
        self.said(desk, f"case e {EVEN}", "ok")
        self.said(desk, "mind a e", "ok")
        self.said(desk, "mind b e", "ok")
        self.said(desk, "rule all 1 0 | 0 1", "ok")
        self.said(desk, "hear a all 1", "ok")
        self.said(desk, "show b", "1/2 1/2")

    def test_numbers_of_one_to_four_figures(self):
        desk = told(f"case e {EVEN}", "mind m e", "rule s 1 | 1", "rule t " + "0 " * 29 + "1 | 1" + " 0" * 29)
        for step in range(1234):
            desk.say("hear m s 0")
        for number in (1, 23, 200, 1010):
            self.said(desk, f"forget m {number}", "ok")
        for number in (1, 9999):
            with self.assertRaises(Bare) as caught:
                desk.say(f"forget m {number}")
            self.assertEqual(caught.exception.many, number)
        self.said(desk, "hear m t 29", "ok")
        self.said(desk, "show m", "1 0")


class Refused(unittest.TestCase):
    def refused(self, desk, row, refusal, **fields):
        before = look(desk)
        with self.assertRaises(refusal) as caught:
            desk.say(row)
        for name, thing in fields.items():
            found = getattr(caught.exception, name)
            self.assertEqual(found, thing, (row, name))
            self.assertIs(isinstance(found, bool), isinstance(thing, bool))
        self.assertEqual(look(desk), before, row)

    def test_no_texts(self):
        desk = filled()
        for thing in no_texts() + [b"names", ["names"], ("names",)]:
            self.refused(desk, thing, NoRow)

    def test_line_feeds(self):
        for row in ("names\n", "\nnames", "na\nmes", "\n", f"case c {JUDGE}\n", f"case c \n{JUDGE}", "rule n 1 |\n1", "show\nj",
                    "hear m r 0\n", "rule s\n1", "drop gone\n"):
            self.refused(filled(), row, NoRow)

    def test_no_rows(self):
        rows = ["", " ", "  ", "x", "Names", "NAMES", "name", "names ", " names", "names j", "names  ", "-", "ok", "cases", "\t",
                "names\t", "show\tj", "against", "case", "case ", "case c", "case  ", f"case  {JUDGE}", f"case  c {JUDGE}",
                f"case C {JUDGE}", f"case abcdefghi {JUDGE}", f"case c1 {JUDGE}", f"case - {JUDGE}", f"case c\t{JUDGE}", "rule",
                "rule ", "rule q", "rule  1", "rule 1 0", "rule q! 1", "most j\r", "limit m_", "mind n-m j", "mind n j ", "mind  n j"]
        counts = {"drop": 1, "show": 1, "most": 1, "advise": 2, "few": 2, "gains": 2, "deeds": 2, "helps": 1, "lost": 2,
                  "limit": 1, "mind": 2, "deed": 1}
        for head, many in counts.items():
            rows += [" ".join([head] + ["j"] * number) for number in range(many + 3) if number != many]
            rows += [" ".join([head] + ["j"] * (many + 1)) + " against", head + " ", head + " " * many, head + " " * (many + 1)]
            for at in range(many):
                for wrong in ("", "J", "j1", "abcdefghi", "-", "1", "j\t", "j.", "_", "je'"):
                    rows.append(" ".join([head] + ["j"] * at + [wrong] + ["j"] * (many - at - 1)))
            good = " ".join([head] + ["j"] * many)
            rows += [good + " ", " " + good, good.replace(" ", "  ", 1), good + "\t", good + " Against", good + " againsts",
                     good + " against ", good + " against against", good + " against x", good + " x", good + " 1", good + "  against"]
            if head not in ("gains", "deeds", "deed"):
                rows.append(good + " against")
        for row in rows:
            self.refused(filled(), row, NoRow)

    def test_no_numbers_in_rows(self):
        wrong = ["", "00", "01", "007", "12345", "10000", "-1", "+1", "1.0", "1/2", "x", "a", "1a", "0x1", "1_0", "-0", "1\t", "-"]
        rows = [f"hear m r {number}" for number in wrong] + [f"forget m {number}" for number in wrong]
        rows += ["hear m r", "hear m 0", "hear m r 0 0", "hear m r 0 against", "hear m r 0 ", "hear m  0", "hear  r 0", "hear m r  0",
                 "hear M r 0", "hear m R 0", "hear m 0 r", "hear", "forget", "forget m", "forget m 1 1", "forget m 1 ", "forget  1",
                 "forget M 1", "forget 1 m", "forget m 1 against", "forget m  1", "forget 1 1"]
        for row in rows:
            self.refused(filled(), row, NoRow)

    def test_other_figures_and_letters(self):
        for sign in ("\u00e9", "\u0660", "\u00b2", "\uff11", "\u03b1"):
            for row in (f"hear m r {sign}", f"forget m {sign}", f"show {sign}", f"rule {sign} 1"):
                self.refused(filled(), row, NoRow)

    def test_no_name_the_first_one_ahead(self):
        gone = [("drop x", "x"), ("show x", "x"), ("most x", "x"), ("helps x", "x"), ("limit x", "x"), ("deed x", "x"),
                ("deed x against", "x"), ("gains x y", "x"), ("gains j y", "y"), ("gains x r", "x"), ("deeds x y against", "x"),
                ("deeds j y against", "y"), ("lost x y", "x"), ("lost j y", "y"), ("advise x n", "x"), ("few x n", "x"),
                ("mind n x", "x"), ("hear x y 0", "x"), ("hear m y 0", "y"), ("hear x r 0", "x"), ("forget x 1", "x")]
        other = [("most r", "r"), ("most m", "m"), ("helps m", "m"), ("helps r", "r"), ("limit r", "r"), ("limit m", "m"),
                 ("deed j", "j"), ("deed r against", "r"), ("gains r j", "r"), ("gains j j", "j"), ("gains j m", "m"),
                 ("gains m m against", "m"), ("deeds r r", "r"), ("deeds j m", "m"), ("lost m r", "m"), ("lost j j", "j"),
                 ("advise r n", "r"), ("advise m n", "m"), ("few m n", "m"), ("mind n r", "r"), ("mind n m", "m"), ("hear j r 0", "j"),
                 ("hear r m 0", "r"), ("hear m j 0", "j"), ("hear m m 0", "m"), ("forget j 1", "j"), ("forget r 0", "r")]
        new = [("case r x", "r"), ("case m x", "m"), (f"case m {JUDGE}", "m"), ("rule j x", "j"), ("rule m 1 | 1", "m"), ("rule j ", "j"),
               ("advise j j", "j"), ("advise j m", "m"), ("few j j", "j"), ("few j m", "m"), ("mind j j", "j"), ("mind r j", "r")]
        # What is missed stands ahead of a new name that is taken.
        both = [("advise x m", "x"), ("few r j", "r"), ("mind j x", "x"), ("mind r m", "m"), ("mind j r", "r")]
        for row, name in gone + other + new + both:
            self.refused(filled(), row, NoName, name=name)

    def test_names_ahead_of_what_the_points_refuse(self):
        for row, name in [("hear m x 99", "x"), ("hear x solo 99", "x"), ("forget x 0", "x"), ("forget j 0", "j"), ("gains one x", "x"),
                          ("lost x solo", "x"), ("limit r", "r"), ("case r shares", "r"), ("rule j ", "j"), ("case m ", "m")]:
            self.refused(filled(), row, NoName, name=name)

    def test_what_the_points_refuse(self):
        self.refused(filled(), "case c ", NoText, part=0)
        self.refused(filled(), f"case c  {JUDGE}", NoText, part=0)
        self.refused(filled(), f"case j  {JUDGE}", NoText, part=0)
        self.refused(filled(), f"case c {JUDGE} ", NoText, part=2)
        self.refused(filled(), f"case c {JUDGE}; ", NoText, part=3)
        self.refused(filled(), "case c shares 1", NoText, part=1)
        self.refused(filled(), "case c x y z", NoText, part=0)
        self.refused(filled(), "case c shares 2; hearer 1; teller 1", NoCase, part="shares", number=None)
        self.refused(filled(), "case j shares 1; hearer 1 2; teller 1", NoCase, part="teller", number=0)
        self.refused(filled(), "rule n ", NoText, part=0)
        self.refused(filled(), "rule n  1", NoText, part=0)
        self.refused(filled(), "rule r 1 ", NoText, part=0)
        self.refused(filled(), "rule n 1 | 1/2", NoText, part=1)
        self.refused(filled(), "rule n\t1", NoRow)
        self.refused(filled(), "rule n 1\t", NoText, part=0)
        for row in ("gains j solo", "gains j solo against", "deeds j solo", "deeds j solo against", "lost j solo", "hear m solo 0",
                    "hear m solo 9"):
            self.refused(filled(), row, Unlike, one=2, other=1)
        for row in ("gains one r", "gains one r against", "deeds one r", "lost one r"):
            self.refused(filled(), row, Unlike, one=1, other=2)
        self.refused(filled(), "limit one", NotTwo, many=1)
        for word in (3, 10, 9999):
            self.refused(filled(), f"hear m r {word}", NoWord, word=word)
        self.refused(filled(), "hear m r 2", Unsaid, word=2)
        self.refused(filled(), "forget m 0", NoNumber, number=0)
        for number in (2, 10, 100, 9999):
            self.refused(filled(), f"forget m {number}", Bare, many=number)

    def test_unsaid_by_what_was_heard(self):
        desk = told(f"case e {EVEN}", "mind m e", "rule all 1 0 | 0 1", "hear m all 1")
        self.refused(desk, "hear m all 0", Unsaid, word=0)
        desk.say("forget m 1")
        self.assertEqual(desk.say("hear m all 0"), "ok")


class Full(unittest.TestCase):
    def full(self):
        """A desk with twenty names: a case, a rule, a mind, and more rules."""
        desk = told(f"case j {JUDGE}", "rule r 1 0 | 1/3 2/3", "mind m j")
        for letter in "abcdefghnopqstuvw":
            desk.say(f"rule x{letter} 1 | 1")
        return desk

    def test_twenty_and_no_more(self):
        desk = self.full()
        self.assertEqual(len(desk), 20)
        before = look(desk)
        for row in (f"case n {JUDGE}", "rule n 1", "advise j n", "few j n", "mind n j"):
            with self.assertRaises(TooMany) as caught:
                desk.say(row)
            self.assertEqual(caught.exception.many, 21)
            self.assertEqual(look(desk), before)
        for row, refusal in [("case n x", NoText), ("case n ", NoText), ("case n shares 2; hearer 1; teller 1", NoCase),
                             ("rule n 2", NoText), ("advise x n", NoName), ("few r n", NoName), ("mind n x", NoName),
                             ("mind r j", NoName), ("advise j m", NoName), ("case r x", NoName), ("rule n", NoRow), ("mind n", NoRow)]:
            with self.assertRaises(refusal):
                desk.say(row)
            self.assertEqual(look(desk), before)

    def test_in_an_elder_ones_stead(self):
        desk = self.full()
        for row in (f"case j {EVEN}", "rule xa 1 0 | 0 1", "advise j xb", "few j xc", "mind m j"):
            self.assertEqual(desk.say(row), "ok")
            self.assertEqual(len(desk), 20)
        self.assertEqual((desk.say("show j"), desk.say("show m"), desk.say("show xc")), (EVEN, "1/2 1/2", "1 | 1"))
        desk.say("drop xa")
        self.assertEqual((desk.say("mind n j"), len(desk)), ("ok", 20))
        with self.assertRaises(TooMany):
            desk.say("rule xa 1")

    def test_one_by_one(self):
        desk = Desk()
        for number in range(20):
            self.assertEqual(desk.say(f"rule {'abcdefghijklmnopqrst'[number]} 1"), "ok")
            self.assertEqual(len(desk), number + 1)
        with self.assertRaises(TooMany) as caught:
            desk.say("rule u 1")
        self.assertIsInstance(caught.exception, OverflowError)
        self.assertEqual(len(desk), 20)


class Model:
    """What a desk keeps and answers, by the functions themselves, written here row by row."""

    def __init__(self):
        self.things = {}

    def known(self, name, kind):
        if not isinstance(self.things.get(name), kind):
            raise NoName(name)
        return self.things[name]

    def put(self, name, kind, make):
        if name in self.things and not isinstance(self.things[name], kind):
            raise NoName(name)
        thing = make()
        if name not in self.things and len(self.things) >= 20:
            raise TooMany(21)
        self.things[name] = thing
        return "ok"

    def answer(self, head, *words):
        against = len(words) > {"gains": 2, "deeds": 2, "deed": 1}.get(head, len(words))
        if head == "names":
            return " ".join(sorted(self.things)) or "-"
        if head == "case":
            return self.put(words[0], Case, lambda: read(words[1]))
        if head == "rule":
            return self.put(words[0], Rule, lambda: read_rule(words[1]))
        if head == "mind":
            case = self.known(words[1], Case)
            return self.put(words[0], Mind, lambda: Mind(case))
        if head in ("advise", "few"):
            case = self.known(words[0], Case)
            return self.put(words[1], Rule, lambda: most(case)[1] if head == "advise" else few(case))
        if head == "drop":
            self.known(words[0], (Case, Rule, Mind))
            del self.things[words[0]]
            return "ok"
        if head == "show":
            thing = self.known(words[0], (Case, Rule, Mind))
            if isinstance(thing, Mind):
                return " ".join(str(worth(one)) for one in thing.beliefs())
            return shown(thing) if isinstance(thing, Case) else str(thing)
        if head in ("deed", "hear", "forget"):
            mind = self.known(words[0], Mind)
            if head == "deed":
                return str(mind.deed(against))
            if head == "forget":
                mind.forget(int(words[1]))
            else:
                mind.hear(self.known(words[1], Rule), int(words[2]))
            return "ok"
        case = self.known(words[0], Case)
        if head == "most":
            return str(worth(most(case)[0]))
        if head == "helps":
            return "yes" if helps(case) else "no"
        if head == "limit":
            return str(worth(limit(case)))
        rule = self.known(words[1], Rule)
        if head == "lost":
            return str(worth(lost(case, rule)))
        if head == "gains":
            return " ".join(str(worth(one)) for one in gains(case, rule, against))
        return " ".join("-" if one is None else str(one) for one in deeds_done(case, rule, against))


def drawn_name(dice, names, kind):
    """A name, most often one by which a thing of that kind stands if anything does."""
    fit = [name for name in names if name.startswith(kind)]
    return dice.choice(fit * 9 + names if dice.random() < 0.8 else names)


def drawn_text(dice, head):
    """The text of a case or a rule, now and then a spoilt one."""
    worlds = dice.choice([1, 2, 2, 2, 2])
    if head == "case":
        text = shown(drawn_case(worlds, dice.randint(1, 3), dice.choice(["tied", "mixed"]), dice.randint(0, 9)))
        return dice.choice([text] * 12 + ["x", "", text + ";", "shares 2; hearer 1; teller 1"])
    text = str(drawn_rule(worlds, dice.randint(1, 3), dice.randint(0, 9)))
    return dice.choice([text] * 12 + ["x", "", " " + text, text + " | 2"])


def drawn_row(dice, names):
    """A row's words, most of them so that something comes of it."""
    head = dice.choice(HEADS + ["case", "rule", "mind", "hear", "hear", "hear", "forget"])
    case, rule, mind = [drawn_name(dice, names, kind) for kind in "crm"]
    any_name = dice.choice(names)
    behind = dice.choice([[], ["against"]])
    words = {
        "names": [], "drop": [any_name], "show": [any_name], "most": [case], "helps": [case], "limit": [case],
        "advise": [case, rule], "few": [case, rule], "gains": [case, rule] + behind, "deeds": [case, rule] + behind,
        "lost": [case, rule], "mind": [mind, case], "hear": [mind, rule, str(dice.randint(0, 3))],
        "forget": [mind, str(dice.choice([0, 1, 1, 2, 3]))], "deed": [mind] + behind,
    }
    if head in words:
        return [head] + words[head]
    return [head, case if head == "case" else rule, drawn_text(dice, head)]


def outcome(act):
    """What comes of it: an answer, or a refusal's name and fields."""
    try:
        return act()
    except (Bare, NoCase, NoName, NoNumber, NoText, NotTwo, NoWord, TooMany, Unlike, Unsaid) as refused:
        return (type(refused).__name__, vars(refused))


class Beside(unittest.TestCase):
    def test_long_talks_beside_a_model(self):
        seen = {}
        for number in range(12):
            dice = random.Random(f"talk {number}")
            names = [kind + letter for letter in "abcdefghijkl"[:dice.choice([2, 4, 12])] for kind in "crm"] + ["against"]
            desk, model = Desk(), Model()
            for _ in range(300):
                words = drawn_row(dice, names)
                before = look(desk)
                found = outcome(lambda: desk.say(" ".join(words)))
                self.assertEqual(found, outcome(lambda: model.answer(*words)), words)
                self.assertEqual(len(desk), len(model.things))
                if isinstance(found, tuple):
                    self.assertEqual(look(desk), before)
                seen[found[0] if isinstance(found, tuple) else words[0]] = True
        for kind in HEADS + ["NoCase", "NoName", "NoText", "NoWord", "TooMany", "Unlike", "Unsaid", "Bare", "NoNumber", "NotTwo"]:
            self.assertIn(kind, seen)

    def test_two_desks_answer_alike_whatever_the_other_is_told(self):
        dice = random.Random("two desks")
        names = ["ca", "cb", "ra", "rb", "ma", "mb"]
        rows = [" ".join(drawn_row(dice, names)) for _ in range(200)]
        alone = Desk()
        answers = [outcome(lambda: alone.say(row)) for row in rows]
        one, other = Desk(), Desk()
        found = []
        for row in rows:
            found.append(outcome(lambda: one.say(row)))
            outcome(lambda: other.say(" ".join(drawn_row(dice, names))))
        self.assertEqual(found, answers)
        third = Desk()
        self.assertEqual([outcome(lambda: third.say(row)) for row in rows], answers)
        self.assertEqual(look(third), look(one))


if __name__ == "__main__":
    unittest.main()
