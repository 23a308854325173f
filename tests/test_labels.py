import unittest
from fractions import Fraction

from caskyears.errors import BadCask, BadKnowledge, BadRule, InvalidCellar, InvalidFill, InvalidRecipe
from caskyears.labels import agrees, counter, fits, needless, reason, reason_holds, rows_of, some_cellar, sure_least
from caskyears.labels import sure_most, surely
from caskyears.recipes import same_way
from tests.helper import ECHO, LONG, LONGER, NONE_OF_ANY, ODD, Case, amounts_of, drawing, end_of_aim, fill, number, pair
from tests.helper import pairs, some_cellar as drawn_cellar, some_recipe
from tests.test_fills import NO_CELLARS, NO_FILLS
from tests.test_recipes import NO_RECIPES

HALF = (1, 2)
OLD = (("old",), "least", HALF)
NO_KINDS_OF_RULES = NONE_OF_ANY[:-1] + [
    (), ["old"], ("young", "old"), ("old", "old"), ("old", None), ("Old",), ("",), ("abcdefghi",), (b"old",),
    (("old",),),
    "old", {"old": 1}, ("old", ["young"]), (ODD,), (ECHO,),
]
# Two of any are kinds of rules.
NO_KINDS_OF_RULES = [value for value in NO_KINDS_OF_RULES
    if not (isinstance(value, tuple) and value in (("red",), ("none",), ("one",), ("many",), ("move",)))]
NO_RULES = NONE_OF_ANY + [(kinds, "least", HALF) for kinds in NO_KINDS_OF_RULES] + [
    (), list(OLD), (("old",), "least"), OLD + (HALF,), (("old",), "Least", HALF), (("old",), None, HALF),
    (("old",), ECHO, HALF), (("old",), b"most", HALF), (("old",), "most", (3, 2)), (("old",), "most", (-1, 2)),
    (("old",), "most", (2, 4)), (("old",), "most", [1, 2]), (("old",), "most", None), (("old",), "most", 1),
    (("old",), "", HALF), (("old",), ["most"], HALF), ("old", "most", HALF),
]
KNOWN = (2, ("old", "young"), (
    ("size", 0, (4, 1), (4, 1)), ("rule", 0, (("old",), "least", (3, 4))), ("size", 1, (2, 1), (2, 1)),
))
NO_FACTS = NONE_OF_ANY + [
    (), ["size", 0, HALF, HALF], ("size", 0, HALF), ("size", 2, HALF, HALF), ("size", -1, HALF, HALF),
    ("size", True, HALF, HALF), ("size", 0, (-1, 2), HALF), ("size", 0, HALF, (-1, 2)), ("size", 0, None, HALF),
    ("size", 0, (2, 4), HALF), ("size", 0, HALF, [1, 2]), ("size", 0, HALF, HALF, HALF), ("size", "old", HALF, HALF),
    ("amount", 0, "old", HALF), ("amount", 0, "other", HALF, HALF), ("amount", 2, "old", HALF, HALF),
    ("amount", 0, None, HALF, HALF), ("amount", 0, ECHO, HALF, HALF), ("amount", 0, "old", None, HALF),
    ("amount", 0, "old", HALF, (2, 4)), ("amount", "old", HALF, HALF), ("amount", 0, ("old",), HALF, HALF),
    ("sum", "old", HALF), ("sum", "other", HALF, HALF), ("sum", 0, "old", HALF, HALF), ("sum", ECHO, HALF, HALF),
    ("sum", "old", None, None), ("sum", "old", (-1, 1), None), ("sum", ["old"], HALF, None), ("rule", 0),
    ("rule", 2, OLD), ("rule", 0, (("other",), "least", HALF)), ("rule", 0, (("old", "other"), "most", HALF)),
    ("rule", 0, OLD, OLD), ("rule", 0, None), ("rule", 0, list(OLD)), ("rule", False, OLD), ("Size", 0, HALF, HALF),
    (ECHO, 0, HALF, HALF), (None, 0, HALF, HALF), ("share", 0, HALF, HALF), (b"sum", "old", HALF, HALF),
]
NO_KNOWLEDGE = NONE_OF_ANY + [(2, ("old", "young"), (fact,)) for fact in NO_FACTS] + [
    (), list(KNOWN), KNOWN[:2], KNOWN + ((),), (0, ("old",), ()), (9, ("old",), ()), (-1, ("old",), ()),
    (True, ("old",), ()), (None, ("old",), ()), ("2", ("old",), ()), (2, ("old", "young"), list(KNOWN[2])),
    (2, ("old", "young"), KNOWN[2] + (None,)), (2, ("old",), None), (2, ("old",), {}), (2, ("young",), KNOWN[2]),
    (1, ("old", "young"), KNOWN[2]), (2, ("old", "young"), KNOWN[2] * 3), ((2, 1), ("old",), ()),
] + [(2, kinds, ()) for kinds in NO_KINDS_OF_RULES]


def is_true(fact, cellar):
    """Return whether a fact is true of a cellar."""
    wholes = [sum((number(much) for _, much in inside), Fraction(0)) for inside in cellar]
    if fact[0] == "rule":
        kinds, sense, share = fact[2]
        part = sum(amounts_of(cellar, kind)[fact[1]] for kind in kinds)
        limit = number(share) * wholes[fact[1]]
        return part >= limit if sense == "least" else part <= limit
    if fact[0] == "sum":
        much = sum(amounts_of(cellar, fact[1]))
    else:
        much = wholes[fact[1]] if fact[0] == "size" else amounts_of(cellar, fact[2])[fact[1]]
    return number(fact[-2]) <= much and (fact[-1] is None or much <= number(fact[-1]))


def rows_by_hand(knowledge):
    """Return the rows of knowledge with Python's fractions, as the document tells them."""
    casks, kinds, facts = knowledge
    places = [(cask, kind) for cask in range(casks) for kind in kinds]
    rows = [([-Fraction(place == here) for here in places], Fraction(0)) for place in places]
    for fact in facts:
        if fact[0] == "rule":
            counted, sense, share = fact[2]
            sign = 1 if sense == "least" else -1
            rows.append(([sign * (number(share) - (kind in counted)) if cask == fact[1] else Fraction(0)
                for cask, kind in places], Fraction(0)))
            continue
        here = {"size": lambda cask, kind: cask == fact[1], "sum": lambda cask, kind: kind == fact[1],
            "amount": lambda cask, kind: (cask, kind) == fact[1:3]}[fact[0]]
        factors = [Fraction(here(cask, kind)) for cask, kind in places]
        rows.append(([-factor for factor in factors], -number(fact[-2])))
        if fact[-1] is not None:
            rows.append((factors, number(fact[-1])))
    return rows


def aim_by_hand(knowledge, recipe, cask, rule):
    """Return the factors of a rule behind a recipe, by what one part of each unknown comes to in the cask."""
    casks, kinds, _ = knowledge
    counted, sense, share = rule
    sign, factors = 1 if sense == "least" else -1, []
    for at in range(casks):
        behind = same_way(recipe, tuple(fill(a=1) if at == place else () for place in range(casks)))
        weight = amounts_of(behind, "a")[cask]
        factors += [sign * weight * (number(share) - (kind in counted)) for kind in kinds]
    return factors


def some_rule(draw, kinds):
    """Return a rule of some of the kinds."""
    counted = tuple(sorted(draw.sample(kinds, draw.randrange(1, len(kinds) + 1))))
    below = draw.randrange(1, 5)
    return counted, draw.choice(["least", "most"]), pair(Fraction(draw.randrange(below + 1), below))


def some_knowledge(draw, casks, kinds, many):
    """Return knowledge of small numbers, mostly true of one cellar."""
    hidden = [{kind: Fraction(draw.randrange(4), draw.randrange(1, 3)) for kind in kinds} for _ in range(casks)]
    facts, honest = [], draw.random() < 0.7
    for _ in range(many):
        word, cask, kind = draw.choice(["size", "amount", "sum", "rule"]), draw.randrange(casks), draw.choice(kinds)
        much = {"size": sum(hidden[cask].values()), "sum": sum(inside[kind] for inside in hidden)}.get(word,
            hidden[cask][kind])
        low = much * Fraction(draw.randrange(3), 2) if honest else Fraction(draw.randrange(4), 2)
        low = min(low, much) if honest else low
        high = draw.choice([None, much, much + 1, 2 * much] if honest else [None, low, max(low - 1, 0)])
        bounds = pair(low), None if high is None else pair(high)
        rule, inside = some_rule(draw, kinds), fill(**{kind: much for kind, much in hidden[cask].items() if much})
        if honest and not is_true(("rule", 0, rule), (inside,)):
            rule = (rule[0], "most" if rule[1] == "least" else "least", rule[2])
        facts.append({"size": ("size", cask, *bounds), "amount": ("amount", cask, kind, *bounds),
            "sum": ("sum", kind, *bounds), "rule": ("rule", cask, rule)}[word])
    return casks, tuple(kinds), tuple(facts)


SHAPES = [(1, ["a"]), (1, ["a", "b"]), (2, ["a"]), (3, ["a"]), (1, ["a", "b", "c"]), (2, ["a", "b"])]
MIXED = [(1, ["a", "b"]), (1, ["a", "b", "c"]), (2, ["a", "b"])]


class Rules(Case, unittest.TestCase):
    def test_fits(self):
        draw = drawing(191)
        for inside in drawn_cellar(draw, 40) + drawn_cellar(draw, 40):
            for _ in range(4):
                rule = some_rule(draw, ["a", "b", "c", "d"])
                self.assertIs(fits(inside, rule), is_true(("rule", 0, rule), (inside,)))
        self.assertIs(fits((), (("old",), "least", (1, 1))), True)
        self.assertIs(fits((), (("old",), "most", (0, 1))), True)
        self.assertIs(fits(rule=(("old",), "least", (1, 1)), fill=fill(old=1)), True)
        self.assertIs(fits(fill(old=1, z=1), (("old",), "least", HALF)), True)
        self.assertIs(fits(fill(old=1, z=1), (("old",), "most", HALF)), True)
        near = pair(Fraction(1, 2) + Fraction(1, LONGER))
        self.assertIs(fits(fill(old=1, z=1), (("old",), "least", near)), False)
        self.assertIs(fits(fill(old=1, z=1), (("old", "x", "z"), "least", (1, 1))), True)


class Knowledge(Case, unittest.TestCase):
    def test_agrees(self):
        draw = drawing(192)
        seen = {True: 0, False: 0}
        for casks, kinds in SHAPES * 12:
            knowledge = some_knowledge(draw, casks, kinds, draw.randrange(4))
            cellar = drawn_cellar(draw, casks, kinds=kinds)
            wanted = all(is_true(fact, cellar) for fact in knowledge[2])
            self.assertIs(agrees(knowledge, cellar), wanted)
            seen[wanted] += 1
        self.assertGreater(min(seen.values()), 10)
        self.assertIs(agrees((2, ("old",), ()), (fill(old=1),)), False)
        self.assertIs(agrees((1, ("old",), ()), (fill(old=1), ())), False)
        self.assertIs(agrees((1, ("old",), ()), (fill(new=1),)), False)
        self.assertIs(agrees((1, ("old",), ()), (fill(new=1, old=1),)), False)
        self.assertIs(agrees(cellar=((), ()), knowledge=(2, ("old",), ())), True)
        self.assertIs(agrees((1, ("old",), (("size", 0, (1, 1), (0, 1)),)), ((),)), False)

    def test_rows(self):
        draw = drawing(193)
        for casks, kinds in SHAPES * 6:
            knowledge = some_knowledge(draw, casks, kinds, draw.randrange(9))
            wanted = tuple((pairs(*factors), pair(bound)) for factors, bound in rows_by_hand(knowledge))
            self.assertEqual(rows_of(knowledge), (casks * len(kinds), wanted))
        self.assertEqual(rows_of(knowledge=(1, ("old",), (("size", 0, (0, 1), None), ("sum", "old", (0, 1), (3, 1))))),
            (1, ((pairs(-1), pair(0)), (pairs(-1), pair(0)), (pairs(-1), pair(0)), (pairs(1), pair(3)))))
        self.assertEqual(rows_of((2, ("a", "b"), (("rule", 1, (("b",), "most", (1, 4))),)))[1][-1],
            ((pairs(0, 0, Fraction(-1, 4), Fraction(3, 4))), pair(0)))

    def test_some_cellar(self):
        draw = drawing(194)
        seen = {True: 0, False: 0}
        for casks, kinds in SHAPES * 12:
            knowledge = some_knowledge(draw, casks, kinds, draw.randrange(6))
            found = some_cellar(knowledge)
            nothing = end_of_aim(casks * len(kinds), rows_by_hand(knowledge), [0] * (casks * len(kinds)))
            self.assertIs(found is None, nothing == "none")
            seen[found is None] += 1
            if found is not None:
                self.assertIs(agrees(knowledge, found), True)
                self.assertTrue(all(is_true(fact, found) for fact in knowledge[2]))
                self.assertEqual(len(found), casks)
        self.assertGreater(min(seen.values()), 10)
        self.assertIsNone(some_cellar(knowledge=(1, ("a",), (("size", 0, (2, 1), (1, 1)),))))
        self.assertEqual(some_cellar((1, ("a",), (("size", 0, (2, 1), (2, 1)),))), (fill(a=2),))

    def test_needless(self):
        draw = drawing(195)
        seen = {True: 0, False: 0}
        for casks, kinds in SHAPES * 8:
            knowledge = some_knowledge(draw, casks, kinds, draw.randrange(1, 5))
            wanted = []
            for at, fact in enumerate(knowledge[2]):
                others = knowledge[2][:at] + knowledge[2][at + 1:]
                rows, alone = rows_by_hand((casks, knowledge[1], others)), rows_by_hand((casks, knowledge[1], (fact,)))
                ends = [(end_of_aim(casks * len(kinds), rows, factors), bound)
                    for factors, bound in alone[casks * len(kinds):]]
                if all(end == "none" or (end != "endless" and end <= bound) for end, bound in ends):
                    wanted.append(at)
                seen[at in wanted] += 1
            self.assertEqual(self.all_new(needless, knowledge), wanted)
        self.assertGreater(min(seen.values()), 25)
        twice = ("size", 0, (1, 1), (2, 1))
        self.assertEqual(needless(knowledge=(1, ("a",), (twice, twice))), [0, 1])
        self.assertEqual(needless((1, ("a",), (twice, ("size", 0, (0, 1), None)))), [1])
        self.assertEqual(needless((1, ("a",), (twice, ("size", 0, (3, 1), None)))), [])
        self.assertEqual(needless((1, ("a",), (("size", 0, (2, 1), (1, 1)), twice))), [1])
        self.assertEqual(needless((1, ("a", "b"), (("amount", 0, "a", (1, 1), None), ("size", 0, (1, 1), None)))), [1])
        self.assertEqual(needless((1, ("a",), ())), [])


class Surely(Case, unittest.TestCase):
    def check(self, knowledge, recipe, cask, rule):
        """Check what is sure by taking out the unknowns, and the paper for it; return what there is."""
        casks, kinds, facts = knowledge
        rows, aim = rows_by_hand(knowledge), aim_by_hand(knowledge, recipe, cask, rule)
        end = end_of_aim(casks * len(kinds), rows, aim)
        sure = end == "none" or (end != "endless" and end <= 0)
        self.assertIs(surely(knowledge, recipe, cask, rule), sure)
        found, paper = counter(knowledge, recipe, cask, rule), reason(knowledge, recipe, cask, rule)
        self.assertEqual([found is None, paper is None], [sure, not sure])
        if found is not None:
            self.assertTrue(all(is_true(fact, found) for fact in facts))
            self.assertIs(agrees(knowledge, found), True)
            self.assertIs(fits(same_way(recipe, found)[cask], rule), False)
            return "endless" if end == "endless" else "counter"
        self.assertIs(type(paper), tuple)
        self.assertTrue(all(entry[0] >= 0 for entry in paper))
        made = [sum((number(many) * row[0][at] for many, row in zip(paper, rows)), Fraction(0))
            for at in range(len(aim))]
        bound = sum((number(many) * row[1] for many, row in zip(paper, rows)), Fraction(0))
        self.assertTrue((made == aim and bound <= 0) or (not any(made) and bound < 0))
        self.assertIs(reason_holds(knowledge, recipe, cask, rule, paper), True)
        return "nobody" if end == "none" else "sure"

    def test_by_taking_out(self):
        draw = drawing(196)
        seen = {"sure": 0, "nobody": 0, "counter": 0, "endless": 0}
        for casks, kinds in SHAPES * 10 + MIXED * 50:
            knowledge = some_knowledge(draw, casks, kinds, draw.randrange(6))
            recipe, cask = some_recipe(draw, casks, draw.randrange(3)), draw.randrange(casks)
            seen[self.check(knowledge, recipe, cask, some_rule(draw, kinds + ["z"]))] += 1
        self.assertGreater(min(seen.values()), 10, seen)

    def test_shares(self):
        draw = drawing(197)
        ends = 0
        for casks, kinds in SHAPES + MIXED * 20:
            knowledge = some_knowledge(draw, casks, kinds, draw.randrange(2, 7))
            recipe, cask = some_recipe(draw, casks, draw.randrange(2)), draw.randrange(casks)
            counted = (draw.choice(kinds), "z")
            for function, sense, sign in ((sure_least, "least", 1), (sure_most, "most", -1)):
                share = number(function(knowledge, recipe, cask, counted))
                word = self.check(knowledge, recipe, cask, (counted, sense, pair(share)))
                self.assertNotIn(word, ("counter", "endless"))
                beyond = share + sign * Fraction(1, 10**6)
                if 0 <= beyond <= 1:
                    self.assertIs(surely(knowledge, recipe, cask, (counted, sense, pair(beyond))), False)
                    ends += 0 < share < 1
        self.assertGreater(ends, 15)

    def test_edges(self):
        nobody = (1, ("a",), (("size", 0, (2, 1), (1, 1)),))
        self.assertEqual([sure_least(nobody, (), 0, ("a",)), sure_most(nobody, (), 0, ("a",))], list(pairs(1, 0)))
        self.assertIs(surely(nobody, (), 0, (("z",), "least", (1, 1))), True)
        # Nothing is in the cask: by what is known, or behind a draw.
        for knowledge, recipe in [((2, ("a",), (("size", 0, (0, 1), (0, 1)),)), ()),
                ((2, ("a",), (("size", 0, (1, 1), None),)), (("draw", 0, (1, 1)),))]:
            self.assertEqual(sure_least(knowledge, recipe, 0, ("a",)), (1, 1))
            self.assertEqual(sure_most(knowledge, recipe, 0, ("a",)), (0, 1))
            self.assertEqual(self.check(knowledge, recipe, 0, (("z",), "least", (1, 1))), "sure")
        free = (1, ("a", "b"), ())
        self.assertEqual([sure_least(free, (), 0, ("a",)), sure_most(free, (), 0, ("a",))], list(pairs(0, 1)))
        self.assertEqual([sure_least(free, (), 0, ("z",)), sure_most(free, (), 0, ("z",))], list(pairs(0, 0)))
        self.assertEqual([sure_least(free, (), 0, ("a", "b")), sure_most(free, (), 0, ("a", "b"))], list(pairs(1, 1)))

    def test_shares_that_are_only_come_near_to(self):
        # There is 1 of the one kind, and as much as one likes of the other: its share falls, but never to 0.
        knowledge = (1, ("a", "b"), (("amount", 0, "a", (1, 1), (1, 1)), ("amount", 0, "b", (2, 1), None)))
        self.assertEqual(sure_least(knowledge, (), 0, ("a",)), (0, 1))
        self.assertEqual(sure_most(kinds=("a",), cask=0, recipe=(), knowledge=knowledge), (1, 3))
        self.assertEqual(self.check(knowledge, (), 0, (("a",), "least", (1, LONG))), "endless")
        self.assertEqual(sure_most(knowledge, (), 0, ("b",)), (1, 1))
        self.assertEqual(sure_least(kinds=("b",), cask=0, recipe=(), knowledge=knowledge), (2, 3))
        mixed = (2, ("a", "b"), (("rule", 0, (("a",), "least", (1, 3))), ("size", 1, (1, 1), (1, 1)),
            ("amount", 1, "b", (1, 1), None), ("size", 0, (3, 1), None)))
        self.assertEqual(sure_least(mixed, (("move", 1, 0, (1, 1)),), 0, ("a",)), (1, 4))
        self.assertEqual(sure_most(mixed, (("move", 1, 0, (1, 1)),), 0, ("a",)), (1, 1))

    def test_what_is_no_reason(self):
        recipe, rule = (("move", 1, 0, (1, 1)),), (("old",), "least", HALF)
        rows = rows_by_hand(KNOWN)
        good = reason(KNOWN, recipe, 0, rule)
        self.assertIs(reason_holds(value=good, rule=rule, cask=0, recipe=recipe, knowledge=KNOWN), True)
        self.assertEqual(len(good), len(rows))
        for value in NONE_OF_ANY + [
            (), list(good), good[:-1], good + ((0, 1),), pairs(*[0] * len(rows)), tuple((2 * x, y) for x, y in good),
            good[:-1] + (None,), pairs(*[1] * len(rows)), tuple((-x, y) for x, y in good), good[::-1],
        ]:
            self.assertIs(reason_holds(KNOWN, recipe, 0, rule, value), False, value)
        self.assertIs(reason_holds(KNOWN, recipe, 1, rule, good), False)
        self.assertIs(reason_holds(KNOWN, (), 0, rule, good), False)
        self.assertIs(reason_holds(KNOWN, recipe, 0, (("old",), "least", (51, 100)), good), False)
        self.assertIsNone(reason(KNOWN, recipe, 0, (("old",), "least", (51, 100))))
        # A row with the right factors, but a bound above 0, is no reason; a refusal is one for each rule.
        loose = (1, ("a",), (("size", 0, (0, 1), (5, 1)),))
        self.assertIs(reason_holds(loose, (), 0, (("z",), "least", (1, 1)), pairs(0, 0, 1)), False)
        nobody = (1, ("a",), (("size", 0, (2, 1), (1, 1)),))
        self.assertIs(reason_holds(nobody, (), 0, (("z",), "least", (1, 1)), pairs(0, 1, 1)), True)
        self.assertIs(reason_holds(nobody, (), 0, (("z",), "least", (1, 1)), pairs(0, 1, 2)), True, "x at most 0")
        self.assertIs(reason_holds(nobody, (), 0, (("z",), "least", (1, 1)), pairs(0, 2, 1)), False)

    def test_at_the_limits(self):
        draw = drawing(198)
        far = 10**30
        for casks, kinds in ((8, ["a"]), (4, ["a", "b"]), (2, ["a", "b", "c", "d"]), (1, list("abcdefgh"))):
            hidden = tuple(fill(**{kind: Fraction(draw.randrange(1, far), draw.randrange(1, far)) for kind in kinds})
                for _ in range(casks))
            facts = []
            for at in range(4):
                much = amounts_of(hidden, kinds[0])[at % casks]
                facts.append(("amount", at % casks, kinds[0], pair(much / 2), pair(much * 2)))
                whole = sum(sum(number(much) for _, much in inside) for inside in hidden[at % casks:at % casks + 1])
                facts.append(("size", at % casks, pair(whole * Fraction(1, 2)), pair(whole * Fraction(3, 2))))
            knowledge = (casks, tuple(kinds), tuple(facts))
            self.assertIs(agrees(knowledge, hidden), True)
            recipe = some_recipe(draw, casks, 40)
            share = number(sure_least(knowledge, recipe, 0, (kinds[0],)))
            self.assertIs(surely(knowledge, recipe, 0, ((kinds[0],), "least", pair(share))), True)
            self.assertTrue(all(at in range(8) for at in needless(knowledge)))
            self.assertIs(agrees(knowledge, some_cellar(knowledge)), True)


class Refusals(Case, unittest.TestCase):
    def test_fits(self):
        for value in NO_FILLS:
            with self.subTest(value=value):
                self.refused(InvalidFill, value, fits, value, None)
        for value in NO_RULES:
            with self.subTest(value=value):
                self.refused(BadRule, value, fits, (), value)

    def test_knowledge(self):
        for value in NO_KNOWLEDGE:
            with self.subTest(value=value):
                for function in (rows_of, some_cellar, needless):
                    self.refused(BadKnowledge, value, function, value)
                self.refused(BadKnowledge, value, agrees, value, None)
                for function in (surely, counter, reason, sure_least, sure_most):
                    self.refused(BadKnowledge, value, function, value, None, -1, None)
                self.refused(BadKnowledge, value, reason_holds, value, None, -1, None, None)

    def test_what_stands_behind_it(self):
        for value in NO_CELLARS:
            with self.subTest(value=value):
                self.refused(InvalidCellar, value, agrees, KNOWN, value)
        for function, more in ((surely, ()), (counter, ()), (reason, ()), (sure_least, ()), (sure_most, ()),
                (reason_holds, (None,))):
            for value in NO_RECIPES + [(("draw", 2, HALF),), (("move", 0, 2, HALF),)]:
                with self.subTest(value=value):
                    self.refused(InvalidRecipe, value, function, KNOWN, value, -1, None, *more)
            for cask in (-1, 2, 10**40, None, "0", [0], True):
                self.refused(BadCask, cask, function, KNOWN, (), cask, None, *more)
            values = NO_KINDS_OF_RULES if function in (sure_least, sure_most) else NO_RULES
            for value in values:
                with self.subTest(value=value):
                    self.refused(BadRule, value, function, KNOWN, (), 0, value, *more)


if __name__ == "__main__":
    unittest.main()
