from itertools import permutations, product

from onlyrisers.bounds import mirror
from onlyrisers.counts import all_risers, between, by_sizes, decides, holds_many
from onlyrisers.errors import NoNumber, NoRiser, TooMany
from onlyrisers.joins import mattering
from tests.asking import Asking
from tests.making import (EACH_RISER, NO_MANY, NO_RISERS, ODD_THINGS, RISERS, holds_at, rest_of,
                          stands_of)

RISER = (3, ((0,), (1, 2)))
OF_ONE = (holds_many, by_sizes, decides)

# Each written out by hand: riser, at how many stands of each size it holds, and how many
# stands each switch decides at.
TOLD = [
    ((1, ()), (0, 0), (0,)),
    ((1, ((0,),)), (0, 1), (1,)),
    ((1, ((),)), (1, 1), (0,)),
    ((2, ((0, 1),)), (0, 0, 1), (1, 1)),
    ((2, ((0,), (1,))), (0, 2, 1), (1, 1)),
    ((2, ((1,),)), (0, 1, 1), (0, 2)),
    (RISER, (0, 1, 3, 1), (3, 1, 1)),
    ((3, ((0, 1), (0, 2), (1, 2))), (0, 0, 3, 1), (2, 2, 2)),
    ((3, ((0, 1), (2,))), (0, 1, 3, 1), (1, 1, 3)),
    ((4, ((3,),)), (0, 1, 3, 3, 1), (0, 0, 0, 8)),
    ((4, ((0, 1), (2, 3))), (0, 0, 2, 4, 1), (3, 3, 3, 3)),
    ((5, ((0, 1, 2, 3, 4),)), (0, 0, 0, 0, 0, 1), (1, 1, 1, 1, 1)),
    ((5, ()), (0, 0, 0, 0, 0, 0), (0, 0, 0, 0, 0)),
    ((5, ((),)), (1, 5, 10, 10, 5, 1), (0, 0, 0, 0, 0)),
]


class Counted(Asking):
    """[41], [42]: where a riser holds, by sizes, and where each switch decides."""

    def test_written_out(self):
        for riser, sizes, deciding in TOLD:
            self.same(by_sizes(riser), sizes)
            self.same(holds_many(riser), sum(sizes))
            self.same(decides(riser), deciding)

    def test_holds_stand_by_stand(self):
        for riser in EACH_RISER:
            held = [stand for stand in stands_of(riser[0]) if holds_at(riser, stand)]
            self.same(holds_many(riser), len(held))
            sizes = [sum(1 for stand in held if len(stand) == size)
                     for size in range(riser[0] + 1)]
            self.same(by_sizes(riser), tuple(sizes))

    def test_decides_stand_by_stand(self):
        for riser in EACH_RISER:
            told = [0] * riser[0]
            for stand in stands_of(riser[0]):
                for switch in rest_of(riser[0], stand):
                    if not holds_at(riser, stand) and holds_at(riser, stand + (switch,)):
                        told[switch] += 1
            self.same(decides(riser), tuple(told))

    def test_of_one_that_always_holds_and_one_that_never_does(self):
        for many in range(1, 6):
            always, never = (many, ((),)), (many, ())
            self.same(holds_many(always), 2 ** many)
            self.same(holds_many(never), 0)
            self.same(by_sizes(never), (0,) * (many + 1))
            self.same(decides(always), (0,) * many)
            self.same(decides(never), (0,) * many)

    def test_no_riser(self):
        for thing in NO_RISERS:
            for action in OF_ONE:
                self.refused(NoRiser, action, thing)


class AllRisers(Asking):
    """[43]: all risers of at most three switches."""

    def test_written_out(self):
        self.same(all_risers(1), [(1, ()), (1, ((),)), (1, ((0,),))])
        self.same(all_risers(2), [(2, ()), (2, ((),)), (2, ((0,),)), (2, ((0,), (1,))),
                                  (2, ((0, 1),)), (2, ((1,),))])

    def test_so_many_there_are(self):
        for many, there_are in ((1, 3), (2, 6), (3, 20)):
            self.assertEqual(len(all_risers(many)), there_are)

    def test_each_once_a_rising_list(self):
        for many in (1, 2, 3):
            self.same(all_risers(many), sorted(RISERS[many]))

    def test_a_new_list_each_time(self):
        for many in (1, 2, 3):
            told = all_risers(many)
            told.append(None)
            del told[0]
            told[0] = RISER
            self.same(all_risers(many), sorted(RISERS[many]))

    def test_too_many(self):
        self.refused(TooMany, all_risers, 4)
        self.refused(TooMany, all_risers, 5)

    def test_no_number(self):
        for many in NO_MANY:
            self.refused(NoNumber, all_risers, many)


class Between(Asking):
    """[43]: how many risers lie between two of at most three switches."""

    def test_written_out(self):
        self.same(between((1, ()), (1, ((0,),))), 2)
        self.same(between((2, ((0, 1),)), (2, ((0,), (1,)))), 4)
        self.same(between((2, ((0, 1),)), (2, ((1,),))), 2)
        self.same(between((2, ((0,),)), (2, ((1,),))), 0)
        self.same(between((3, ((0, 1, 2),)), RISER), 10)
        self.same(between(RISER, (3, ((0, 1, 2),))), 0)

    def test_all_pairs(self):
        for many in (1, 2, 3):
            held = {riser: {stand for stand in stands_of(many) if holds_at(riser, stand)}
                    for riser in RISERS[many]}
            for one, other in product(RISERS[many], repeat=2):
                told = [riser for riser in RISERS[many]
                        if held[one] <= held[riser] <= held[other]]
                self.same(between(one, other), len(told))
                if not held[one] <= held[other]:
                    self.same(between(one, other), 0)

    def test_of_the_never_holding_and_the_always_holding_one_all(self):
        for many, there_are in ((1, 3), (2, 6), (3, 20)):
            self.same(between((many, ()), (many, ((),))), there_are)
            self.same(between((many, ((),)), (many, ())), 0)

    def test_too_many(self):
        for many in (4, 5):
            for one in RISERS[many][::19]:
                for other in RISERS[many][::23]:
                    self.refused(TooMany, between, one, other)

    def test_unlike_many_switches_go_ahead_of_too_many(self):
        for some, more in permutations(range(1, 6), 2):
            for least, other in product(((), ((),), ((0,),)), repeat=2):
                self.refused(NoRiser, between, (some, least), (more, other))

    def test_no_riser_goes_ahead_of_too_many(self):
        for thing in NO_RISERS:
            for riser in (RISER, (4, ((0,),)), (5, ()), thing):
                self.refused(NoRiser, between, thing, riser)
                self.refused(NoRiser, between, riser, thing)


class What44Says(Asking):
    """[44]: what follows of what is counted."""

    def test_a_riser_and_its_mirror_hold_at_as_many_as_there_are(self):
        for riser in EACH_RISER:
            self.same(holds_many(riser) + holds_many(mirror(riser)), 2 ** riser[0])

    def test_sizes_come_together_to_all(self):
        for riser in EACH_RISER:
            self.same(sum(by_sizes(riser)), holds_many(riser))
            self.assertEqual(len(by_sizes(riser)), riser[0] + 1)

    def test_a_switch_matters_just_where_it_decides_somewhere(self):
        for riser in EACH_RISER:
            told = [switch for switch, number in enumerate(decides(riser)) if number > 0]
            self.same(mattering(riser), tuple(told))

    def test_of_a_riser_and_itself_there_is_one_between(self):
        for riser in RISERS[1] + RISERS[2] + RISERS[3]:
            self.same(between(riser, riser), 1)


class NothingIsChanged(Asking):
    """[4]: what is handed in stays as it is, and the same asked has the same answer."""

    def test_it_all(self):
        for thing in ODD_THINGS + NO_MANY + [RISER, (3, [(0,)]), 2, 4] + EACH_RISER[::9]:
            for action in (*OF_ONE, all_risers):
                self.asked_twice(action, thing)
            self.asked_twice(between, thing, thing)
            self.asked_twice(between, RISER, thing)
            self.asked_twice(between, thing, RISER)
