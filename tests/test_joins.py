from itertools import permutations, product

from onlyrisers.bounds import mirror
from onlyrisers.errors import NoNumber, NoRiser, NoSwitch
from onlyrisers.joins import both, either, held_off, held_on, is_below, mattering, named
from onlyrisers.risers import is_riser
from tests.asking import Asking
from tests.making import (BIG, EACH_RISER, NO_RISERS, ODD_THINGS, RISERS, holds_at, rest_of,
                          riser_where, stands_of)

RISER = (3, ((0,), (1, 2)))
OF_TWO = (either, both, is_below)

# Each written out by hand, by least stands of three switches: one and other, what is joined,
# what is met, and whether the one is below the other.
JOINED = [
    (((0,), (1, 2)), ((0, 2), (1,)), ((0,), (1,)), ((0, 1), (0, 2), (1, 2)), False),
    (((0, 1), (2,)), ((0,), (2,)), ((0,), (2,)), ((0, 1), (2,)), True),
    (((0,), (2,)), ((0, 1), (2,)), ((0,), (2,)), ((0, 1), (2,)), False),
    (((0, 1),), ((0, 1, 2),), ((0, 1),), ((0, 1, 2),), False),
    (((0,),), ((1,),), ((0,), (1,)), ((0, 1),), False),
    ((), ((0,),), ((0,),), (), True),
    (((0,),), (), ((0,),), (), False),
    (((),), ((0,),), ((),), ((0,),), False),
    (((0,),), ((),), ((),), ((0,),), True),
    ((), (), (), (), True),
    (((),), (), ((),), (), False),
    (((),), ((),), ((),), ((),), True),
]

# All pairs of risers of as many switches, but of four and five, where some go for all.
PAIRS = [pair for many, step in ((1, 1), (2, 1), (3, 1), (4, 7), (5, 8))
         for pair in product(RISERS[many][::step], repeat=2)]


class Joined(Asking):
    """[31]: what is joined, what is met, and whether the one is below the other."""

    def test_written_out(self):
        for one, other, joined, met, below in JOINED:
            self.same(either((3, one), (3, other)), (3, joined))
            self.same(both((3, one), (3, other)), (3, met))
            self.same(is_below((3, one), (3, other)), below)

    def test_stand_by_stand(self):
        for one, other in PAIRS:
            many = one[0]
            held = [(holds_at(one, stand), holds_at(other, stand)) for stand in stands_of(many)]
            truth = dict(zip(stands_of(many), held))
            self.same(either(one, other), riser_where(many, lambda stand: any(truth[stand])))
            self.same(both(one, other), riser_where(many, lambda stand: all(truth[stand])))
            self.same(is_below(one, other), all(b or not a for a, b in held))

    def test_of_a_riser_and_itself(self):
        for riser in EACH_RISER:
            self.same(either(riser, riser), riser)
            self.same(both(riser, riser), riser)
            self.same(is_below(riser, riser), True)

    def test_unlike_many_switches(self):
        for some, more in permutations(range(1, 6), 2):
            for one in RISERS[some][:3] + RISERS[some][-3:]:
                for other in RISERS[more][:3] + RISERS[more][-3:]:
                    for action in OF_TWO:
                        self.refused(NoRiser, action, one, other)

    def test_no_riser(self):
        for thing in NO_RISERS:
            for action in OF_TWO:
                self.refused(NoRiser, action, thing, RISER)
                self.refused(NoRiser, action, RISER, thing)
                self.refused(NoRiser, action, thing, thing)
                self.refused(NoRiser, action, thing, None)
                self.refused(NoRiser, action, None, thing)


class Held(Asking):
    """[32]: a switch held on, or off."""

    def test_written_out(self):
        for switch, least_on, least_off in ((0, ((),), ((0, 1),)), (1, ((0,), (1,)), ((0,),)),
                                            (2, ((0,), (1,)), ((0,),))):
            self.same(held_on(RISER, switch), (2, least_on))
            self.same(held_off(RISER, switch), (2, least_off))
        self.same(held_on((4, ((0, 1), (2, 3))), 1), (3, ((0,), (1, 2))))
        self.same(held_off((4, ((0, 1), (2, 3))), 1), (3, ((1, 2),)))
        self.same(held_on((2, ((1,),)), 1), (1, ((),)))
        self.same(held_off((2, ((1,),)), 1), (1, ()))
        self.same(held_on((2, ((1,),)), 0), (1, ((0,),)))
        self.same(held_off((2, ((1,),)), 0), (1, ((0,),)))

    def test_at_each_stand_of_the_others(self):
        for riser in EACH_RISER:
            many = riser[0]
            for switch in range(many if many > 1 else 0):
                others = rest_of(many, (switch,))
                for action, held in ((held_on, (switch,)), (held_off, ())):
                    # The others, in order, are 0, 1 and so on from then on.
                    expected = riser_where(many - 1, lambda stand: holds_at(
                        riser, tuple(others[one] for one in stand) + held))
                    self.same(action(riser, switch), expected)
                    self.assertTrue(is_riser(action(riser, switch)))

    def test_of_one_that_always_holds_and_one_that_never_does(self):
        for many in range(2, 6):
            for switch in range(many):
                for action in (held_on, held_off):
                    self.same(action((many, ()), switch), (many - 1, ()))
                    self.same(action((many, ((),)), switch), (many - 1, ((),)))

    def test_no_switch(self):
        for riser in EACH_RISER[::3] + RISERS[1]:
            for switch in (-1, riser[0], riser[0] + 1, 5, BIG, -BIG, True, False, "0", "", None,
                           [], [0], (), (0,), {}, {0: 0}):
                for action in (held_on, held_off):
                    self.refused(NoSwitch, action, riser, switch)

    def test_no_switch_of_whatever_kind(self):
        for thing in ODD_THINGS:
            if thing not in (0, 1) or isinstance(thing, bool):
                self.refused(NoSwitch, held_on, RISER, thing)
                self.refused(NoSwitch, held_off, RISER, thing)

    def test_no_number_where_it_is_the_only_one(self):
        for riser in RISERS[1]:
            for action in (held_on, held_off):
                self.refused(NoNumber, action, riser, 0)
                self.refused(NoSwitch, action, riser, 1)
                self.refused(NoSwitch, action, riser, False)

    def test_no_riser(self):
        for thing in NO_RISERS:
            for switch in (0, -1, 9, True, None, "0", [0]):
                self.refused(NoRiser, held_on, thing, switch)
                self.refused(NoRiser, held_off, thing, switch)


class Mattering(Asking):
    """[33]: the switches that matter."""

    def test_written_out(self):
        for riser, told in ((RISER, (0, 1, 2)), ((3, ()), ()), ((3, ((),)), ()),
                            ((3, ((1,),)), (1,)), ((5, ((1, 4), (2,))), (1, 2, 4)),
                            ((5, ((0, 4), (1, 3), (1, 4))), (0, 1, 3, 4)), ((1, ((0,),)), (0,)),
                            ((5, ((0, 3), (1, 2))), (0, 1, 2, 3))):
            self.same(mattering(riser), told)

    def test_stand_by_stand(self):
        for riser in EACH_RISER:
            told = [switch for switch in range(riser[0])
                    if any(not holds_at(riser, stand) and holds_at(riser, stand + (switch,))
                           for stand in stands_of(riser[0]))]
            self.same(mattering(riser), tuple(told))

    def test_no_riser(self):
        for thing in NO_RISERS:
            self.refused(NoRiser, mattering, thing)


class Named(Asking):
    """[33]: a riser named by an order of its switches."""

    def test_written_out(self):
        for riser, order, told in ((RISER, (0, 1, 2), RISER),
                                   (RISER, (1, 0, 2), (3, ((0, 2), (1,)))),
                                   (RISER, (1, 2, 0), (3, ((0, 1), (2,)))),
                                   (RISER, (2, 0, 1), (3, ((0, 2), (1,)))),
                                   ((3, ((0,),)), (1, 2, 0), (3, ((2,),))),
                                   ((3, ((0, 1),)), (1, 2, 0), (3, ((0, 2),))),
                                   ((3, ((0, 1),)), (2, 0, 1), (3, ((1, 2),))),
                                   ((4, ((0, 1), (2,))), (3, 2, 1, 0), (4, ((1,), (2, 3)))),
                                   ((1, ((0,),)), (0,), (1, ((0,),)))):
            self.same(named(riser, order), told)

    def test_by_each_order_stand_by_stand(self):
        for riser in RISERS[1] + RISERS[2] + RISERS[3] + RISERS[4][::6] + RISERS[5][::15]:
            for order in permutations(range(riser[0])):
                told = named(riser, order)
                expected = riser_where(riser[0], lambda stand: holds_at(
                    riser, tuple(order[place] for place in stand)))
                self.same(told, expected)

    def test_all_are_risers(self):
        for riser in EACH_RISER:
            for order in list(permutations(range(riser[0])))[::7]:
                self.assertTrue(is_riser(named(riser, order)))

    def test_back_by_the_order_the_other_way(self):
        for riser in EACH_RISER:
            for order in list(permutations(range(riser[0])))[::11]:
                back = tuple(order.index(switch) for switch in range(riser[0]))
                self.same(named(named(riser, order), back), riser)

    def test_no_order(self):
        for order in ([0, 1, 2], [], {}, {0: 0, 1: 1, 2: 2}, (), (0,), (0, 1), (1, 2), (0, 2),
                      (0, 1, 1), (0, 0, 1), (0, 0, 0), (2, 2, 2), (0, 1, 2, 2), (0, 1, 2, 0),
                      (0, 1, 2, 3), (1, 2, 3), (0, 1, 3), (-1, 0, 1), (-3, -2, -1), (0, 1, -1),
                      (0, True, 2), (False, 1, 2), (False, True, 2), (0, 1, 2, True),
                      ("0", "1", "2"), (0, 1, "2"), (0, 1, None), (0, 1, (2,)), (0, 1, [2]),
                      ((0, 1, 2),), "012", 12, 3, None, True, BIG, (0, 1, BIG), RISER):
            self.refused(NoSwitch, named, RISER, order)

    def test_no_order_of_whatever_kind(self):
        for thing in ODD_THINGS:
            self.refused(NoSwitch, named, RISER, thing)

    def test_orders_of_other_numbers(self):
        for many, other in permutations(range(1, 6), 2):
            self.refused(NoSwitch, named, (many, ()), tuple(range(other)))
            self.refused(NoSwitch, named, (many, ((),)), tuple(range(other)))

    def test_no_riser(self):
        for thing in NO_RISERS:
            for order in ((0, 1, 2), (), [0, 1, 2], (0, 0, 1), None, "012", True):
                self.refused(NoRiser, named, thing, order)


class What34Says(Asking):
    """[34]: what follows of joined, met, mirrored and held risers."""

    def test_both_are_below_what_is_joined(self):
        for one, other in PAIRS:
            joined, met = either(one, other), both(one, other)
            for riser in (one, other):
                self.same(is_below(riser, joined), True)
                self.same(is_below(met, riser), True)
            self.same(either(other, one), joined)
            self.same(both(other, one), met)
            self.same(is_below(one, other), joined == other)

    def test_the_mirror_of_what_is_joined_is_what_the_mirrors_meet_in(self):
        for one, other in PAIRS:
            self.same(mirror(either(one, other)), both(mirror(one), mirror(other)))
            self.same(mirror(both(one, other)), either(mirror(one), mirror(other)))

    def test_a_switch_off_is_below_it_on(self):
        for riser in EACH_RISER:
            for switch in range(riser[0] if riser[0] > 1 else 0):
                low, high = held_off(riser, switch), held_on(riser, switch)
                self.same(is_below(low, high), True)
                self.same(low == high, switch not in mattering(riser))


class NothingIsChanged(Asking):
    """[4]: what is handed in stays as it is, and the same asked has the same answer."""

    def test_it_all(self):
        for thing in ODD_THINGS + [RISER, (3, [(0,)]), [2, 1, 0], (2, 1, 0), (2, [1], 0)]:
            self.asked_twice(mattering, thing)
            for riser in (RISER, (1, ()), thing):
                for action in (*OF_TWO, held_on, held_off, named):
                    self.asked_twice(action, riser, thing)
        for riser in EACH_RISER[::9]:
            self.asked_twice(mattering, riser)
            for action in OF_TWO:
                self.asked_twice(action, riser, riser)
            self.asked_twice(named, riser, tuple(range(riser[0]))[::-1])
            for switch in range(riser[0]):
                self.asked_twice(held_on, riser, switch)
                self.asked_twice(held_off, riser, switch)
