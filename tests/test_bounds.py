from itertools import permutations, product

from onlyrisers.bounds import by_greatest, greatest, is_paper, mirror
from onlyrisers.errors import NoNumber, NoRiser, NoStand
from onlyrisers.risers import are_apart, holds, is_riser
from onlyrisers.tables import riser_of, table
from tests.asking import Asking
from tests.making import (EACH_RISER, NO_MANY, NO_RISERS, ODD_THINGS, RISERS, holds_at, rest_of,
                          riser_where, rising_tables, stands_of, within)

RISER = (3, ((0,), (1, 2)))
PAPER = (((0,), (1, 2)), ((1,), (2,)))

# Each written out by hand: riser, its greatest stands and its mirror's least stands.
TOLD = [
    ((1, ()), ((0,),), ((),)),
    ((1, ((),)), (), ()),
    ((1, ((0,),)), ((),), ((0,),)),
    ((2, ((0,), (1,))), ((),), ((0, 1),)),
    ((2, ((0, 1),)), ((0,), (1,)), ((0,), (1,))),
    ((2, ((1,),)), ((0,),), ((1,),)),
    (RISER, ((1,), (2,)), ((0, 1), (0, 2))),
    ((3, ((0, 1), (2,))), ((0,), (1,)), ((0, 2), (1, 2))),
    ((3, ((0, 1), (0, 2), (1, 2))), ((0,), (1,), (2,)), ((0, 1), (0, 2), (1, 2))),
    ((3, ()), ((0, 1, 2),), ((),)),
    ((3, ((),)), (), ()),
    ((4, ((0, 1), (2, 3))), ((0, 2), (0, 3), (1, 2), (1, 3)), ((0, 2), (0, 3), (1, 2), (1, 3))),
    ((4, ((3,),)), ((0, 1, 2),), ((3,),)),
    ((5, ((0, 1, 2, 3, 4),)),
     ((0, 1, 2, 3), (0, 1, 2, 4), (0, 1, 3, 4), (0, 2, 3, 4), (1, 2, 3, 4)),
     ((0,), (1,), (2,), (3,), (4,))),
    ((5, ((0, 1), (2, 3, 4))), ((0, 2, 3), (0, 2, 4), (0, 3, 4), (1, 2, 3), (1, 2, 4), (1, 3, 4)),
     ((0, 2), (0, 3), (0, 4), (1, 2), (1, 3), (1, 4))),
    ((5, ()), ((0, 1, 2, 3, 4),), ((),)),
    ((5, ((),)), (), ()),
]

# None of these is stands apart of three switches.
NOT_APART = ODD_THINGS + [
    [], [(0,)], [()], ([0],), ([],), ((0,), [1]), ((3,),), ((0, 3),), ((-1,),), ((0,), (0, 1)),
    ((), (0,)), ((0, 1), (1,)), ((1,), (0,)), ((0,), (0,)), ((), ()), ((1, 0),), ((1, 1),),
    ((True,),), ((False,),), ((0,), (True,)), ((0, True),), (0,), (0, 1), ((0,), 1), ((0,), "1"),
    RISER, PAPER,
]


def with_one_more(many, stand):
    return [tuple(sorted(stand + (switch,))) for switch in rest_of(many, stand)]


def told_apart(many, low, high):
    """Whether each stand has one of low within it or lies within one of high, and none both."""
    return all(any(within(one, stand) for one in low) != any(within(stand, one) for one in high)
               for stand in stands_of(many))


class Greatest(Asking):
    """[21]: the greatest stands of a riser."""

    def test_written_out(self):
        for riser, high, _ in TOLD:
            self.same(greatest(riser), high)

    def test_stand_by_stand(self):
        for riser in EACH_RISER:
            many = riser[0]
            high = [stand for stand in stands_of(many) if not holds_at(riser, stand)
                    and all(holds_at(riser, one) for one in with_one_more(many, stand))]
            self.same(greatest(riser), tuple(sorted(high)))
            self.assertTrue(are_apart(greatest(riser), riser))

    def test_of_one_that_always_holds_and_one_that_never_does(self):
        for many in range(1, 6):
            self.same(greatest((many, ((),))), ())
            self.same(greatest((many, ())), (tuple(range(many)),))

    def test_no_riser(self):
        for thing in NO_RISERS:
            self.refused(NoRiser, greatest, thing)


class ByGreatest(Asking):
    """[21]: the riser whose greatest stands these are."""

    def test_written_out(self):
        for riser, high, _ in TOLD:
            self.same(by_greatest(riser[0], high), riser)

    def test_of_the_greatest_stands_is_the_riser(self):
        for riser in EACH_RISER:
            self.same(by_greatest(riser[0], greatest(riser)), riser)

    def test_all_there_are(self):
        for many in range(1, 6):
            for text in rising_tables(many):
                riser = riser_of(text)
                self.same(by_greatest(many, greatest(riser)), riser)

    def test_it_fails_just_at_the_stands_within_one_of_them(self):
        # The least stands of risers are all the stands apart there are.
        for many, high in EACH_RISER:
            riser = by_greatest(many, high)
            self.assertTrue(is_riser(riser), riser)
            self.assertEqual(riser[0], many)
            for stand in stands_of(many):
                truth = not any(within(stand, one) for one in high)
                self.assertIs(holds(riser, stand), truth, (many, high, stand))
            self.same(greatest(riser), high)

    def test_no_number(self):
        for many in NO_MANY:
            self.refused(NoNumber, by_greatest, many, ((0,),))
            self.refused(NoNumber, by_greatest, many, ())

    def test_no_number_goes_ahead_of_no_stand(self):
        for many in NO_MANY:
            for high in NOT_APART:
                self.refused(NoNumber, by_greatest, many, high)

    def test_no_stand(self):
        for high in NOT_APART:
            self.refused(NoStand, by_greatest, 3, high)

    def test_no_stand_of_fewer_switches(self):
        for many in range(1, 6):
            self.refused(NoStand, by_greatest, many, ((many,),))
            self.refused(NoStand, by_greatest, many, (tuple(range(many + 1)),))
            self.refused(NoStand, by_greatest, many, [tuple(range(many))])


class Mirror(Asking):
    """[22]: the mirror of a riser."""

    def test_written_out(self):
        for riser, _, least in TOLD:
            self.same(mirror(riser), (riser[0], least))

    def test_at_each_stand(self):
        for riser in EACH_RISER:
            told = mirror(riser)
            self.assertTrue(is_riser(told), told)
            self.assertEqual(told[0], riser[0])
            for stand in stands_of(riser[0]):
                truth = not holds_at(riser, rest_of(riser[0], stand))
                self.assertIs(holds(told, stand), truth, (riser, stand))

    def test_of_all_there_are(self):
        for many in range(1, 6):
            for text in rising_tables(many):
                told = mirror(riser_of(text))
                other_way = text[::-1].translate({ord("0"): "1", ord("1"): "0"})
                self.assertEqual(table(told), other_way)
                self.same(mirror(told), riser_of(text))

    def test_of_the_mirror_is_the_riser(self):
        for riser in EACH_RISER:
            self.same(mirror(mirror(riser)), riser)

    def test_of_one_that_always_holds_and_one_that_never_does(self):
        for many in range(1, 6):
            self.same(mirror((many, ((),))), (many, ()))
            self.same(mirror((many, ())), (many, ((),)))

    def test_least_ones_with_a_switch_of_each_least_stand(self):
        for riser in EACH_RISER:
            told = riser_where(riser[0], lambda stand, least=riser[1]: all(
                set(stand) & set(one) for one in least))
            self.same(mirror(riser), told)

    def test_no_riser(self):
        for thing in NO_RISERS:
            self.refused(NoRiser, mirror, thing)


class IsPaper(Asking):
    """[23]: whether a thing is the least and the greatest stands of a riser."""

    def told(self, thing, many, expected):
        with self.subTest(thing=thing, many=many):
            self.assertIs(is_paper(thing, many), expected)

    def test_written_out(self):
        for (many, low), high, _ in TOLD:
            self.told((low, high), many, True)

    def test_least_and_greatest_stands_of_each_riser(self):
        for riser in EACH_RISER:
            self.told((riser[1], greatest(riser)), riser[0], True)

    def test_all_pairs_by_the_very_words(self):
        for many in range(1, 4):
            for (_, low), (_, high) in product(RISERS[many], repeat=2):
                self.told((low, high), many, told_apart(many, low, high))

    def test_a_stand_left_out_put_in_or_twice(self):
        for riser in RISERS[3] + RISERS[4][::5] + RISERS[5][::9]:
            many, low = riser
            high = greatest(riser)
            for place in range(len(low)):
                self.told((low[:place] + low[place + 1:], high), many, False)
                self.told((low[:place + 1] + low[place:], high), many, False)
            for place in range(len(high)):
                self.told((low, high[:place] + high[place + 1:]), many, False)
                self.told((low, high[:place + 1] + high[place:]), many, False)
            for stand in stands_of(many):
                if stand not in low:
                    self.told((tuple(sorted(low + (stand,))), high), many, False)
                if stand not in high:
                    self.told((low, tuple(sorted(high + (stand,)))), many, False)

    def test_stands_in_another_order_or_exchanged(self):
        low, high = ((0, 1), (0, 2), (1, 2)), ((0,), (1,), (2,))
        self.told((low, high), 3, True)
        for other in list(permutations(low))[1:]:
            self.told((other, high), 3, False)
        for other in list(permutations(high))[1:]:
            self.told((low, other), 3, False)
        for place in range(3):
            for stand in stands_of(3):
                if stand != low[place]:
                    self.told((low[:place] + (stand,) + low[place + 1:], high), 3, False)
                if stand != high[place]:
                    self.told((low, high[:place] + (stand,) + high[place + 1:]), 3, False)

    def test_a_longer_stand(self):
        self.told((((0,), (1, 2)), ((1,), (2, 2))), 3, False)
        self.told((((0, 1), (1, 2)), ((1,), (2,))), 3, False)
        self.told((((0,), (1, 2)), ((1, 2),)), 3, False)
        self.told((((0,), (0, 1, 2)), ((1,), (2,))), 3, False)

    def test_a_list_for_a_tuple_at_each_depth(self):
        low, high = PAPER
        self.told(PAPER, 3, True)
        for thing in ([low, high], (list(low), high), (low, list(high)), (([0], (1, 2)), high),
                      (((0,), [1, 2]), high), (low, ([1], (2,))), (low, ((1,), [2]))):
            self.told(thing, 3, False)
        self.told((((),), []), 3, False)
        self.told(([], ((0, 1, 2),)), 3, False)
        self.told((([],), ()), 3, False)

    def test_a_truth_as_a_switch(self):
        for thing in ((((False,), (1, 2)), ((1,), (2,))), (((0,), (True, 2)), ((1,), (2,))),
                      (((0,), (1, 2)), ((True,), (2,)))):
            self.told(thing, 3, False)
        self.told((((0,),), ((),)), 1, True)
        self.told((((False,),), ((),)), 1, False)
        self.told(((), ((0,),)), 1, True)
        self.told(((), ((False,),)), 1, False)

    def test_both_exchanged(self):
        self.told(PAPER[::-1], 3, False)
        for many, low in EACH_RISER:
            high = greatest((many, low))
            # Some are papers about, too, as where two of four switches each are on in both.
            self.told((high, low), many, told_apart(many, high, low))

    def test_one_alone_or_one_more(self):
        low, high = PAPER
        for thing in ((), (low,), (high,), low, high, (low, high, ()), (low, high, high),
                      (low, high, None), ((), low, high), (PAPER,), (3, low, high), (low, low),
                      (high, high), (low, None), (None, high), (low, ()), ((), high), ((), ())):
            self.told(thing, 3, False)

    def test_papers_of_another_number(self):
        for riser in EACH_RISER:
            paper = (riser[1], greatest(riser))
            for many in range(1, 6):
                always = riser[1] == ((),)
                # One that always holds is told alike for each number of switches.
                self.told(paper, many, always or many == riser[0])

    def test_whatever_kind(self):
        for thing in ODD_THINGS + [RISER]:
            for many in range(1, 6):
                self.told(thing, many, False)

    def test_no_number_whatever_the_thing(self):
        for many in NO_MANY:
            for thing in ODD_THINGS + [PAPER, RISER, list(PAPER)]:
                self.refused(NoNumber, is_paper, thing, many)


class NothingIsChanged(Asking):
    """[4]: what is handed in stays as it is, and the same asked has the same answer."""

    def test_it_all(self):
        for thing in NOT_APART + [RISER, PAPER, [(1,), (0,)], (3, [(0,)]), [[(0,)], [(1, 2)]]]:
            self.asked_twice(greatest, thing)
            self.asked_twice(mirror, thing)
            for many in (3, thing):
                self.asked_twice(by_greatest, many, thing)
                self.asked_twice(is_paper, thing, many)
        for riser, high, _ in TOLD:
            self.asked_twice(greatest, riser)
            self.asked_twice(mirror, riser)
            self.asked_twice(by_greatest, riser[0], high)
            self.asked_twice(is_paper, (riser[1], high), riser[0])
