import unittest
from itertools import combinations, permutations, product

from onlyrisers.errors import NoRiser, NoStand
from onlyrisers.risers import are_apart, holds, is_riser, is_stand
from tests.asking import Asking
from tests.making import BIG, NO_RISERS, ODD_THINGS, rising_tables, riser_with, stands_of, within

RISER = (3, ((0,), (1, 2)))


def is_rising(things):
    return list(things) == sorted(set(things))


def apart(stands):
    return not any(within(one, other) for one, other in permutations(stands, 2))


class IsRiser(unittest.TestCase):
    """[2], [11]: what a riser is."""

    def told(self, thing, expected):
        with self.subTest(thing=thing):
            self.assertIs(is_riser(thing), expected)

    def test_of_one_to_five_switches(self):
        for many in range(1, 6):
            self.told((many, ()), True)
            self.told((many, ((),)), True)
            self.told((many, ((0,),)), True)
            self.told((many, ((many - 1,),)), True)
            self.told((many, (tuple(range(many)),)), True)
            self.told((many, tuple((switch,) for switch in range(many))), True)

    def test_some_of_more_least_stands(self):
        self.told(RISER, True)
        self.told((4, ((0, 1), (0, 2), (1, 2, 3))), True)
        self.told((5, ((0, 1, 2), (0, 3), (1, 4))), True)
        self.told((5, tuple(combinations(range(5), 2))), True)

    def test_all_there_are(self):
        # So many there are is known from elsewhere.
        for many, there_are in ((1, 3), (2, 6), (3, 20), (4, 168)):
            risers = {riser_with(many, text) for text in rising_tables(many)}
            self.assertEqual(len(risers), there_are)
            for riser in risers:
                self.told(riser, True)

    def test_all_tuples_of_stands_of_two_switches(self):
        for size in range(5):
            for least in product(stands_of(2), repeat=size):
                self.told((2, least), is_rising(least) and apart(least))

    def test_all_pairs_of_stands_of_four_switches(self):
        for least in product(stands_of(4), repeat=2):
            self.told((4, least), is_rising(least) and apart(least))

    def test_wrong_numbers_of_switches(self):
        for many in (0, 6, -1, -3, 7, 32, BIG, -BIG, True, False, None, "3", (3,), [3], {}):
            self.told((many, ()), False)
            self.told((many, ((),)), False)
            self.told((many, ((0,),)), False)

    def test_a_truth_as_a_switch(self):
        self.told((3, ((True,),)), False)
        self.told((3, ((False,),)), False)
        self.told((3, ((0, True),)), False)
        self.told((3, ((False, 1),)), False)
        self.told((3, ((0,), (True, 2))), False)
        self.told((3, (True,)), False)
        self.told((3, True), False)
        self.told(True, False)

    def test_a_list_for_a_tuple_at_each_depth(self):
        self.told([3, ((0,), (1, 2))], False)
        self.told((3, [(0,), (1, 2)]), False)
        self.told((3, ([0], (1, 2))), False)
        self.told((3, ((0,), [1, 2])), False)
        self.told((3, []), False)
        self.told((3, ([],)), False)
        self.told((3, ([0],)), False)
        self.told((3, (([0],),)), False)

    def test_switches_that_are_none_of_it(self):
        for many in range(1, 6):
            for switch in (many, many + 1, 5, -1, -BIG, BIG):
                self.told((many, ((switch,),)), False)
        self.told((3, ((0, 3),)), False)
        self.told((3, ((-1, 0),)), False)
        self.told((3, ((0,), (1, 3))), False)

    def test_stands_that_do_not_rise(self):
        self.told((3, ((1, 0),)), False)
        self.told((3, ((0, 2, 1),)), False)
        self.told((3, ((1, 1),)), False)
        self.told((3, ((0, 0),)), False)
        self.told((3, ((0, 1, 1),)), False)
        self.told((3, ((0,), (2, 1))), False)

    def test_least_stands_that_do_not_rise(self):
        self.told((3, ((1, 2), (0,))), False)
        self.told((3, ((0,), (0,))), False)
        self.told((3, ((), ())), False)
        self.told((3, ((0, 1), (1, 2), (0, 2))), False)
        self.told((3, ((0, 1), (0, 1), (1, 2))), False)

    def test_least_stands_one_within_another(self):
        self.told((3, ((0,), (0, 1))), False)
        self.told((3, ((), (0,))), False)
        self.told((3, ((), (0, 1, 2))), False)
        # The stand within stands behind the other one here.
        self.told((3, ((0, 1), (1,))), False)
        self.told((3, ((0, 2), (1, 2), (2,))), False)
        self.told((3, ((0, 1), (0, 1, 2))), False)
        # The two are not side by side here.
        self.told((4, ((0, 1), (0, 2), (1,))), False)
        self.told((4, ((0,), (1, 2), (0, 3))), False)

    def test_least_stands_of_other_kinds(self):
        for least in (None, 0, 1, "", "012", {}, {(0,): 1}, (0,), (0, 1), ("",), ("0",),
                      (None,), ({},), ((0,), 1), (1, (0,)), ((0,), "1"), ((0,), None),
                      (("0",),), ((0, "1"),), ((0, None),), ((0, (1,)),), (((0,),),)):
            self.told((3, least), False)

    def test_tuples_of_other_lengths(self):
        for thing in ((), (3,), ((3, ()),), (3, (), ()), (3, ((0,),), ()), (3, ((0,),), None),
                      ((), 3), (((0,),), 3), (3, 3), ((), ())):
            self.told(thing, False)

    def test_whatever_kind(self):
        for thing in ODD_THINGS:
            self.told(thing, False)


class IsStand(unittest.TestCase):
    """[2], [11]: what a stand of a riser's switches is."""

    def test_all_tuples_of_numbers_near(self):
        for many in range(1, 6):
            riser = (many, ())
            for size in range(4):
                for thing in product(range(-1, many + 2), repeat=size):
                    expected = is_rising(thing) and all(0 <= one < many for one in thing)
                    self.assertIs(is_stand(thing, riser), expected, thing)

    def test_all_stands(self):
        for many in range(1, 6):
            for riser in ((many, ()), (many, ((),)), (many, ((0,),))):
                for stand in stands_of(many):
                    self.assertIs(is_stand(stand, riser), True)

    def test_it_need_not_hold_there(self):
        self.assertIs(is_stand((1,), RISER), True)
        self.assertIs(is_stand((), RISER), True)

    def test_wrong_ones(self):
        for thing in ODD_THINGS + [(True,), (False,), (0, True), [0, 1], [], (3,), (0, 3), (-1, 0),
                                   (1, 0), (1, 1), (0, 1, 2, 3), (0, 1, 1), RISER, RISER[1]]:
            with self.subTest(thing=thing):
                self.assertIs(is_stand(thing, RISER), False)


class AreApart(unittest.TestCase):
    """[2], [11]: what stands apart of a riser's switches are."""

    def told(self, thing, expected, riser=RISER):
        with self.subTest(thing=thing):
            self.assertIs(are_apart(thing, riser), expected)

    def test_all_tuples_of_stands_of_two_switches(self):
        for size in range(4):
            for stands in product(stands_of(2), repeat=size):
                self.told(stands, is_rising(stands) and apart(stands), (2, ((0,),)))

    def test_all_pairs_of_stands_of_four_switches(self):
        for stands in product(stands_of(4), repeat=2):
            self.told(stands, is_rising(stands) and apart(stands), (4, ()))

    def test_right_ones(self):
        for thing in ((), ((),), ((0,),), ((0,), (1,), (2,)), ((0, 1), (0, 2), (1, 2)),
                      ((0, 1), (2,)), ((0, 1, 2),), RISER[1]):
            self.told(thing, True)

    def test_wrong_ones(self):
        for thing in ([], [(0,)], ([0],), ([],), ((True,),), ((False,),), ((0, True),), ((3,),),
                      ((-1,),), ((0, 3),), ((1, 0),), ((1, 1),), ((1,), (0,)), ((0,), (0,)),
                      ((), ()), ((), (0,)), ((0,), (0, 1)), ((0, 1), (1,)), (0,), ((0,), 1),
                      ((0,), "1"), ((0,), None), ((BIG,),), RISER):
            self.told(thing, False)

    def test_whatever_kind(self):
        for thing in ODD_THINGS:
            self.told(thing, False)


class Holds(Asking):
    """[2], [11]: where a riser holds."""

    def test_at_all_stands_of_a_riser(self):
        expected = {(): False, (0,): True, (1,): False, (2,): False, (0, 1): True, (0, 2): True,
                    (1, 2): True, (0, 1, 2): True}
        for stand, truth in expected.items():
            with self.subTest(stand=stand):
                self.assertIs(holds(RISER, stand), truth)

    def test_without_any_least_stand_it_never_does(self):
        for many in range(1, 6):
            for stand in stands_of(many):
                self.assertIs(holds((many, ()), stand), False)

    def test_with_the_empty_one_alone_it_always_does(self):
        for many in range(1, 6):
            for stand in stands_of(many):
                self.assertIs(holds((many, ((),)), stand), True)

    def test_all_risers_of_one_to_four_switches_at_all_stands(self):
        for many in range(1, 5):
            for text in rising_tables(many):
                riser = riser_with(many, text)
                for stand in stands_of(many):
                    truth = any(within(one, stand) for one in riser[1])
                    self.assertIs(holds(riser, stand), truth)

    def test_no_stand(self):
        for thing in ODD_THINGS + [(True,), (0, True), [0], [], (3,), (0, 3), (-1, 0), (1, 0),
                                   (1, 1), RISER, ((0,),)]:
            self.refused(NoStand, holds, RISER, thing)

    def test_no_stand_of_fewer_switches(self):
        for many in range(1, 6):
            for riser in ((many, ()), (many, ((),))):
                self.refused(NoStand, holds, riser, (many,))


class Refusals(Asking):
    """[5]: what is no riser is refused ahead of all else."""

    def test_by_each_that_takes_one(self):
        for riser in NO_RISERS:
            self.refused(NoRiser, is_stand, (0,), riser)
            self.refused(NoRiser, are_apart, ((0,),), riser)
            self.refused(NoRiser, holds, riser, (0,))

    def test_ahead_of_what_else_is_wrong(self):
        for riser in NO_RISERS:
            for thing in (None, [0], (True,), (9,), "0"):
                self.refused(NoRiser, is_stand, thing, riser)
                self.refused(NoRiser, are_apart, thing, riser)
                self.refused(NoRiser, holds, riser, thing)


class NothingIsChanged(Asking):
    """[4]: what is handed in stays as it is, and the same asked has the same answer."""

    THINGS = ODD_THINGS + [RISER, (3, [(0,)]), (3, ([1, 0],)), [(1,), (0,)], [2, 1], {"a": [2, 1]}]

    def test_it_all(self):
        for thing in self.THINGS:
            self.asked_twice(is_riser, thing)
            for riser in (RISER, (1, ()), thing):
                self.asked_twice(is_stand, thing, riser)
                self.asked_twice(are_apart, thing, riser)
                self.asked_twice(holds, riser, thing)
