"""What the document promises over the whole program (points 2 and 3)."""

import inspect
import random
import unittest

from besttelling import (
    advice, against, ahead, cases, casetexts, desk, doing, errors, fewwords, figures, hearing, minds, mosts, otherwise,
    prices, ratios, roofs, rules, ruletexts, several, telling,
)
from tests.things import (
    copied, dear, drawn_case, drawn_cases, drawn_instead, drawn_rule, lists_in, ratio, share_row, spoil, sure_shares, worth,
)

CASE = drawn_case(2, 2, seed="whole").with_shares([(2, 5), (3, 5)])
RULE = ruletexts.read_rule("1/3 2/3 | 3/4 1/4")
SHARES, HEARER, TELLER = CASE.shares(), CASE.hearer(), CASE.teller()
JOINED = several.joined(SHARES, [HEARER, [[(1, 1)], [(2, 1)]]], TELLER)
CORNERS = [((0, 1), (1, 1), None), ((1, 3), (5, 2), None), ((1, 1), (0, 1), None)]
# Each function of the interface with its arguments, named, in the order of their places.
CALLS = [
    (ratios.is_ratio, {"thing": (1, 2)}), (ratios.made, {"top": 6, "bottom": -4}), (ratios.over, {"one": (1, 2), "other": (3, 4)}),
    (ratios.plus, {"one": (1, 2), "other": (3, 4)}), (ratios.minus, {"one": (1, 2), "other": (3, 4)}),
    (ratios.times, {"one": (1, 2), "other": (3, 4)}), (ratios.under, {"one": (1, 2), "other": (3, 4)}),
    (ratios.total, {"some": [(1, 2), (1, 3)], "start": (4, 1)}), (figures.shown_ratio, {"one": (-3, 4)}),
    (figures.read_ratio, {"text": "-3/4"}), (cases.Case, {"shares": SHARES, "hearer": HEARER, "teller": TELLER}),
    (CASE.with_shares, {"shares": [(1, 7), (6, 7)]}), (rules.Rule, {"rows": [[(1, 1)], [(1, 1)]]}),
    (ruletexts.read_rule, {"text": "1 0 | 1/2 1/2"}), (telling.silence, {"worlds": 3}), (telling.all_told, {"worlds": 3}),
    (telling.beside, {"one": RULE, "other": telling.all_told(2)}),
    (telling.grouped, {"rule": RULE, "groups": [2, 0], "many": 3}), (hearing.chance, {"case": CASE, "rule": RULE, "word": 1}),
    (hearing.beliefs, {"case": CASE, "rule": RULE, "word": 1}),
    (doing.worths, {"case": CASE, "beliefs": [(1, 9), (8, 9)], "deed": 1}),
    (doing.best, {"case": CASE, "beliefs": [(1, 9), (8, 9)]}),
    (doing.deed_by, {"case": CASE, "beliefs": [(1, 9), (8, 9)], "against": True}),
    (doing.deeds_done, {"case": CASE, "rule": RULE, "against": True}),
    (doing.gains, {"case": CASE, "rule": RULE, "against": True}),
    (advice.advised, {"case": CASE, "rule": RULE, "against": True}), (advice.faults, {"case": CASE, "rule": RULE}),
    (advice.is_followed, {"case": CASE, "rule": RULE}), (mosts.most, {"case": CASE}),
    (prices.lets_prices, {"case": CASE, "thing": mosts.most(CASE)[2]}),
    (prices.bound, {"case": CASE, "prices": mosts.most(CASE)[2], "shares": [(1, 7), (6, 7)]}), (fewwords.few, {"case": CASE}),
    (roofs.roof, {"case": CASE, "one": [(1, 9), (8, 9)], "other": [(1, 1), (0, 1)]}),
    (roofs.roof_at, {"corners": CORNERS, "part": (1, 2)}), (roofs.silent, {"case": CASE, "against": True}),
    (roofs.helps, {"case": CASE}), (ahead.ahead, {"case": CASE, "rule": RULE}), (ahead.lost, {"case": CASE, "rule": RULE}),
    (ahead.told_on, {"case": CASE, "rule": RULE}),
    (several.joined, {"shares": SHARES, "hearers": [HEARER, [[(1, 1)], [(2, 1)]]], "teller": TELLER}),
    (several.deed_lists, {"counts": [2, 3]}),
    (several.each_does, {"case": JOINED, "counts": [2, 1], "rule": RULE, "word": 1, "against": True}),
    (against.limit, {"case": CASE}), (against.near, {"case": CASE, "far": (1, 100)}), (against.gained, {"case": CASE}),
    (otherwise.renamed, {"case": CASE, "worlds": [1, 0], "deeds": [1, 0]}),
    (otherwise.renamed_rule, {"rule": RULE, "worlds": [1, 0], "words": [1, 0]}), (casetexts.shown, {"case": CASE}),
    (casetexts.read, {"text": casetexts.shown(CASE)}), (minds.Mind, {"case": CASE}),
    (minds.Mind(CASE).deed, {"against": True}), (desk.Desk().say, {"row": "names"}),
]
# What may be left out, and what stands there then.
LEFT_OUT = [
    (ratios.made, {"top": 6}, {"bottom": 1}), (ratios.total, {"some": [(1, 2)]}, {"start": (0, 1)}),
    (ratios.total, {"some": [(1, 2)]}, {"start": None}), (prices.bound, {"case": CASE, "prices": mosts.most(CASE)[2]}, {"shares": SHARES}),
    (prices.bound, {"case": CASE, "prices": mosts.most(CASE)[2]}, {"shares": None}), (roofs.silent, {"case": CASE}, {"against": False}),
    (doing.deed_by, {"case": CASE, "beliefs": [(1, 9), (8, 9)]}, {"against": False}),
    (doing.deeds_done, {"case": CASE, "rule": RULE}, {"against": False}), (doing.gains, {"case": CASE, "rule": RULE}, {"against": False}),
    (advice.advised, {"case": CASE, "rule": RULE}, {"against": False}),
    (several.each_does, {"case": JOINED, "counts": [2, 1], "rule": RULE, "word": 0}, {"against": False}),
    (minds.Mind(CASE).deed, {}, {"against": False}),
]
CLASSES = [
    (cases.Case, "worlds deeds shares hearer teller with_shares __len__ __eq__ __str__ __repr__"),
    (rules.Rule, "rows worlds __len__ __eq__ __str__ __repr__"),
    (minds.Mind, "hear forget beliefs heard deed case twin __len__ __eq__"), (desk.Desk, "say __len__"),
]


def all_lists(told):
    """All lists in what is told, in tuples too."""
    if isinstance(told, tuple):
        return [found for thing in told for found in all_lists(thing)]
    if not isinstance(told, list):
        return []
    return [told] + [found for thing in told for found in all_lists(thing)]


def shuffled(named, seed):
    """The named arguments in another order, where there is one."""
    names = list(named)
    if len(names) < 2:
        return dict(named)
    while names == list(named):
        random.Random(seed).shuffle(names)
        seed += 1
    return {name: named[name] for name in names}


class Interface(unittest.TestCase):
    def test_arguments_by_their_names_in_another_order(self):
        for call, named in CALLS:
            by_place = call(*named.values())
            for seed in range(4):
                self.assertEqual(call(**shuffled(named, seed)), by_place, call)
            # Some by place, the others by name.
            names = list(named)
            for split in range(len(names)):
                places = [named[name] for name in names[:split]]
                behind = {name: named[name] for name in reversed(names[split:])}
                self.assertEqual(call(*places, **behind), by_place, call)

    def test_names_are_those_told(self):
        for call, named in CALLS:
            self.assertEqual(list(inspect.signature(call).parameters), list(named))

    def test_what_may_be_left_out(self):
        for call, named, more in LEFT_OUT:
            self.assertEqual(call(**named), call(**named, **more), call)
            self.assertEqual(call(*named.values()), call(*named.values(), *more.values()), call)

    def test_minds_by_names(self):
        one, other = minds.Mind(case=CASE), minds.Mind(CASE)
        one.hear(word=1, rule=RULE)
        other.hear(RULE, 1)
        self.assertEqual((one, one.heard()), (other, 1))
        one.hear(RULE, word=0)
        one.forget(many=2)
        self.assertEqual((one.heard(), one.beliefs()), (0, SHARES))

    def test_refusals_by_names(self):
        for name, fields in [("NoNumber", ["number"]), ("NoCase", ["part", "number"]), ("Unlike", ["one", "other"]), ("Bare", ["many"]),
                             ("NoOrder", ["part"]), ("NoName", ["name"]), ("NotTwo", ["many"]), ("NoRow", [])]:
            refusal = getattr(errors, name)(**{field: [field] for field in fields[::-1]})
            self.assertEqual([getattr(refusal, field) for field in fields], [[field] for field in fields])

    def test_methods_stand_in_the_class_itself(self):
        for kind, methods in CLASSES:
            for name in methods.split():
                self.assertIn(name, vars(kind))

    def test_nothing_handed_in_is_changed_and_all_told_is_new(self):
        for call, named in CALLS:
            before = repr(named)
            first = call(**named)
            self.assertEqual(repr(named), before, call)
            told = repr(first)
            found = all_lists(first)
            self.assertEqual(len({id(one) for one in found}), len(found), call)
            second = call(**named)
            handed = [one for thing in named.values() for one in all_lists(thing)]
            self.assertEqual({id(one) for one in found} & {id(one) for one in handed + all_lists(second)}, set(), call)
            for one in found:
                one.clear()
            self.assertEqual(repr(named), before, call)
            if not isinstance(first, minds.Mind):
                self.assertEqual((repr(second), repr(call(**named))), (told, told), call)

    def test_handed_in_and_changed_behind_the_call(self):
        for call, named in CALLS:
            own = {name: copied(thing) if isinstance(thing, list) else thing for name, thing in named.items()}
            told = call(**own)
            # Anything in a list of a list of corners is handed on; here only lists at the top are ours to change.
            for thing in own.values():
                if isinstance(thing, list):
                    spoil(thing)
            self.assertEqual(told, call(**named), call)


class TheMost(unittest.TestCase):
    def test_one_number_by_every_way(self):
        for number, case in enumerate(drawn_cases()):
            gain, told, shown = mosts.most(case)
            dice = random.Random(number)
            other = share_row(case.worlds(), dice)
            found = {
                "bound": prices.bound(case, shown), "advice": doing.gains(case, told)[0],
                "few": doing.gains(case, fewwords.few(case))[0],
                "begin of a roof": roofs.roof(case, case.shares(), other)[0][1],
                "end of a roof": roofs.roof(case, other, case.shares())[-1][1],
                "roof at its end": roofs.roof_at(roofs.roof(case, other, case.shares()), (1, 1)),
                "heard ahead": ahead.ahead(case, telling.silence(case.worlds()))[0],
                "told on": doing.gains(case, ahead.told_on(case, telling.silence(case.worlds())))[0],
                "written": mosts.most(casetexts.read(casetexts.shown(case)))[0],
                "again": mosts.most(case)[0],
            }
            self.assertEqual(found, {way: gain for way in found})
            self.assertEqual(advice.faults(case, told), [])
            self.assertIs(prices.lets_prices(case, shown), True)
            desk_told = desk.Desk()
            desk_told.say(f"case c {casetexts.shown(case)}")
            self.assertEqual(desk_told.say("most c"), figures.shown_ratio(gain))
            for row in ("advise c r", "few c r"):
                desk_told.say(row)
                self.assertEqual(desk_told.say("gains c r").split(" ")[0], figures.shown_ratio(gain))

    def test_a_roof_through_the_case_itself(self):
        # The case lies between the worlds' own corners: there the roof is the most, too.
        for seed in range(20):
            case = drawn_case(2, 1 + seed % 6, "mixed", f"through {seed}")
            corners = roofs.roof(case, sure_shares(2, 0), sure_shares(2, 1))
            self.assertEqual(roofs.roof_at(corners, case.shares()[1]), mosts.most(case)[0])

    def test_nothing_beats_it(self):
        for number, case in enumerate(drawn_cases(2)):
            top = worth(mosts.most(case)[0])
            worlds = case.worlds()
            tried = [telling.silence(worlds), telling.all_told(worlds)]
            tried += [drawn_rule(worlds, words, f"{number} {words}") for words in (2, 3, 6)]
            low = doing.gains(case, telling.silence(worlds))[1]
            for rule in tried:
                for against_teller in (False, True):
                    teller, hearer = doing.gains(case, rule, against_teller)
                    self.assertLessEqual(worth(teller), top)
                    self.assertGreaterEqual(worth(hearer), worth(low))
                self.assertLessEqual(worth(ahead.ahead(case, rule)[0]), top)
                self.assertGreaterEqual(worth(ahead.lost(case, rule)), 0)
            instead = drawn_instead(case.deeds(), number)
            self.assertGreaterEqual(worth(prices.bound(case, ([ratio(one) for one in dear(case, instead)], instead))), top)
            if worlds == 2:
                self.assertLessEqual(worth(against.limit(case)), top)

    def test_several_as_one(self):
        for seed in range(15):
            one, other = drawn_case(3, 2, seed=f"one {seed}"), drawn_case(3, 3, seed=f"other {seed}")
            teller = drawn_case(3, 6, seed=f"teller {seed}").teller()
            case = several.joined(one.shares(), [one.hearer(), other.hearer()], teller)
            told = mosts.most(case)[1]
            for word in range(len(told)):
                if hearing.chance(case, told, word) != (0, 1):
                    behind = hearing.beliefs(case, told, word)
                    each = several.each_does(case, [2, 3], told, word)
                    self.assertIn(each[0], doing.best(one, behind))
                    self.assertIn(each[1], doing.best(other, behind))


class Written(unittest.TestCase):
    def test_what_is_written_is_read_to_the_same(self):
        for number, case in enumerate(drawn_cases()):
            again = casetexts.read(casetexts.shown(case))
            rule = drawn_rule(case.worlds(), 1 + number % 7, number)
            same = ruletexts.read_rule(str(rule))
            self.assertEqual((again, same), (case, rule))
            for against_teller in (False, True):
                self.assertEqual(doing.gains(again, same, against_teller), doing.gains(case, rule, against_teller))
            self.assertEqual(mosts.most(again), mosts.most(case))
            other = share_row(case.worlds(), random.Random(number))
            self.assertEqual(roofs.roof(again, case.shares(), other), roofs.roof(case, case.shares(), other))
            self.assertEqual(ahead.ahead(again, same), ahead.ahead(case, rule))
            if case.worlds() == 2:
                self.assertEqual(against.limit(again), against.limit(case))
                self.assertEqual(against.gained(again), against.gained(case))
            for one in [case.shares()] + case.hearer() + case.teller() + rule.rows():
                self.assertEqual([figures.read_ratio(figures.shown_ratio(part)) for part in one], one)

    def test_told_lists_of_objects_are_apart(self):
        mind = minds.Mind(CASE)
        for tell in (CASE.shares, CASE.hearer, CASE.teller, RULE.rows, mind.beliefs):
            before = repr(tell())
            found = tell()
            self.assertEqual(len({id(one) for one in lists_in(found)}), len(lists_in(found)))
            spoil(found)
            self.assertEqual(repr(tell()), before)


if __name__ == "__main__":
    unittest.main()
