from inspect import signature
from itertools import product

from onlyrisers import errors
from onlyrisers.asks import asks_for, due_asks, greatest_fit, least_fit
from onlyrisers.bounds import by_greatest, greatest, is_paper, mirror
from onlyrisers.chains import begins, few_chains, riser_by
from onlyrisers.counts import all_risers, by_sizes, holds_many
from onlyrisers.forms import by_form, frugal_form, plain_form
from onlyrisers.joins import both, either
from onlyrisers.risers import holds, is_riser
from onlyrisers.tables import riser_of, table
from onlyrisers.texts import read, show
from onlyrisers.weights import by_weights, weights_for
from tests.asking import Asking
from tests.interface import INTERFACE
from tests.making import EACH_RISER, NO_MANY, NO_RISERS, ODD_THINGS, RISERS, holds_at, stands_of

FUNCTIONS = [getattr(module, text.partition("(")[0])
             for module, texts in INTERFACE for text in texts]
CLASSES = [one for one in vars(errors).values() if isinstance(one, type)]

# What is due at one place or another, and what is due nowhere, for each argument in turn.
THINGS = [
    (3, ((0,), (1, 2))), (3, ()), (3, ((),)), (2, ((1,),)), (0, 2), (0,), (), ((0, 1), (2,)), 0, 3,
    [((0,), True), ((1,), False)], [(0,), (1, 2)], [], few_chains(3), (1, 1, 1), (2, 1, 0),
    ((2, 1, 1), 2), ("any", 0, ("all", 1, 2)), "3 : 0 1,2", "01010111",
    (((0,), (1, 2)), ((1,), (2,))), -1, 6, True, None, "", {0: 1}, [[0], [1]], ((0, [1]), {1: 0}),
]


def arguments(function):
    return list(signature(function).parameters)


class WhatIsTold(Asking):
    """[1], [6]: a riser is told in many ways, and each of them tells it back."""

    def test_each_way_tells_it_back(self):
        for riser in EACH_RISER:
            many, least = riser
            self.assertTrue(is_riser(riser))
            self.same(by_greatest(many, greatest(riser)), riser)
            self.same(mirror(mirror(riser)), riser)
            self.same(riser_of(table(riser)), riser)
            self.same(read(show(riser)), riser)
            self.same(riser_by(many, few_chains(many), begins(riser, few_chains(many))), riser)
            self.same(by_form(many, plain_form(riser)), riser)
            for told, by in ((weights_for(riser), by_weights),
                             (frugal_form(riser), lambda form: by_form(riser[0], form))):
                if told is not None:
                    self.same(by(told), riser)
            for stands in (due_asks(riser), asks_for(riser), stands_of(many)):
                answers = [(stand, holds(riser, stand)) for stand in stands]
                self.same(least_fit(many, answers), riser)
                self.same(greatest_fit(many, answers), riser)

    def test_least_and_greatest_stands_are_a_paper_and_no_others_are(self):
        for riser in EACH_RISER:
            self.same(is_paper((riser[1], greatest(riser)), riser[0]), True)
        for many in (1, 2, 3):
            for one, other in product(all_risers(many), repeat=2):
                paper = (one[1], greatest(other))
                self.same(is_paper(paper, many), one == other)

    def test_what_is_joined_and_met_and_each_stand_counted_once(self):
        for many in range(1, 6):
            for one, other in product(RISERS[many][::9], repeat=2):
                joined, met = either(one, other), both(one, other)
                for stand in stands_of(many):
                    truths = [holds_at(one, stand), holds_at(other, stand)]
                    self.same(holds(joined, stand), any(truths))
                    self.same(holds(met, stand), all(truths))
                self.assertEqual(holds_many(joined) + holds_many(met),
                                 holds_many(one) + holds_many(other))
                self.assertEqual([a + b for a, b in zip(by_sizes(joined), by_sizes(met))],
                                 [a + b for a, b in zip(by_sizes(one), by_sizes(other))])


class WhatIsRefused(Asking):
    """[5]: what is refused, over the whole program."""

    def test_no_riser_goes_ahead_of_all_else(self):
        for function in FUNCTIONS:
            names = arguments(function)
            for name in ("riser", "one", "other"):
                if name in names:
                    for thing, other in product(NO_RISERS, (None, True, (9,), [], THINGS[0])):
                        things = [thing if one == name else other for one in names]
                        self.refused(errors.NoRiser, function, *things)

    def test_no_number_of_switches_goes_ahead_of_all_else(self):
        for function in FUNCTIONS:
            names = arguments(function)
            if "many" in names:
                for thing, other in product(NO_MANY, THINGS + ODD_THINGS):
                    things = [thing if one == "many" else other for one in names]
                    self.refused(errors.NoNumber, function, *things)

    def test_all_errors_are_of_the_classes(self):
        refused = 0
        for function in FUNCTIONS:
            for things in product(THINGS, repeat=len(arguments(function))):
                try:
                    function(*things)
                except ValueError as why:
                    refused += 1
                    self.assertIn(type(why), CLASSES)
                    self.assertIsNot(type(why), errors.RiseError)
        self.assertGreater(refused, 0)


class WhatIsNew(Asking):
    """[4]: nothing is changed, and each list that is told is the asker's own."""

    def test_nothing_that_is_handed_in_is_changed(self):
        for function in FUNCTIONS:
            for things in product(THINGS, repeat=len(arguments(function))):
                if len(things) < 3 or things[0] in (3, THINGS[0]):
                    self.asked_twice(function, *things)

    def test_what_is_done_to_a_list_that_is_told_changes_nothing(self):
        lists = 0
        for function in FUNCTIONS:
            for things in product(THINGS, repeat=len(arguments(function))):
                if len(things) == 3 and things[0] != 3:
                    continue
                try:
                    told = function(*things)
                except ValueError:
                    continue
                if isinstance(told, list):
                    lists += 1
                    before = repr(told)
                    self.assertFalse(any(told is thing for thing in things))
                    told.append(None)
                    told.reverse()
                    self.assertEqual(repr(function(*things)), before)
        self.assertGreater(lists, 0)
