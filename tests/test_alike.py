from itertools import permutations, product
from math import factorial

from onlyrisers.alike import are_alike, keeping, kinds, least_alike, named_many, naming
from onlyrisers.bounds import mirror
from onlyrisers.counts import holds_many
from onlyrisers.errors import NoNumber, NoRiser, TooMany
from onlyrisers.joins import named
from tests.asking import Asking
from tests.making import EACH_RISER, NO_MANY, NO_RISERS, ODD_THINGS, RISERS

RISER = (3, ((0,), (1, 2)))
OF_ONE = (keeping, least_alike, named_many)

# Each written out by hand: riser, the orders that keep it, its least alike, and how many
# unlike risers it is named as.
TOLD = [
    ((1, ((0,),)), [(0,)], (1, ((0,),)), 1),
    ((2, ((0,),)), [(0, 1)], (2, ((0,),)), 2),
    ((2, ((1,),)), [(0, 1)], (2, ((0,),)), 2),
    ((2, ((0, 1),)), [(0, 1), (1, 0)], (2, ((0, 1),)), 1),
    ((2, ((0,), (1,))), [(0, 1), (1, 0)], (2, ((0,), (1,))), 1),
    (RISER, [(0, 1, 2), (0, 2, 1)], RISER, 3),
    ((3, ((0, 1), (2,))), [(0, 1, 2), (1, 0, 2)], RISER, 3),
    ((3, ((0, 2), (1,))), [(0, 1, 2), (2, 1, 0)], RISER, 3),
    ((3, ((1, 2),)), [(0, 1, 2), (0, 2, 1)], (3, ((0, 1),)), 3),
    ((3, ((1,), (2,))), [(0, 1, 2), (0, 2, 1)], (3, ((0,), (1,))), 3),
    ((3, ((0, 2), (1, 2))), [(0, 1, 2), (1, 0, 2)], (3, ((0, 1), (0, 2))), 3),
    ((3, ()), list(permutations(range(3))), (3, ()), 1),
    ((3, ((),)), list(permutations(range(3))), (3, ((),)), 1),
    ((4, ((0, 3), (1, 2))),
     [(0, 1, 2, 3), (0, 2, 1, 3), (1, 0, 3, 2), (1, 3, 0, 2), (2, 0, 3, 1), (2, 3, 0, 1),
      (3, 1, 2, 0), (3, 2, 1, 0)], (4, ((0, 1), (2, 3))), 3),
    ((4, ((1, 2, 3),)), [(0, *more) for more in permutations((1, 2, 3))], (4, ((0, 1, 2),)), 4),
    ((4, ((1, 3), (2,))), [(0, 1, 2, 3), (0, 3, 2, 1)], (4, ((0,), (1, 2))), 12),
    ((5, ((0,), (1, 2), (1, 3, 4))), [(0, 1, 2, 3, 4), (0, 1, 2, 4, 3)],
     (5, ((0,), (1, 2), (1, 3, 4))), 60),
    ((5, ((0, 1), (1, 2), (2, 3), (3, 4))), [(0, 1, 2, 3, 4), (4, 3, 2, 1, 0)],
     (5, ((0, 1), (0, 2), (1, 3), (2, 4))), 60),
]

# Written out by hand: two risers and the first order by which the one is named as the other.
NAMINGS = [
    (RISER, (3, ((0, 2), (1,))), (1, 0, 2)),
    (RISER, (3, ((0, 1), (2,))), (1, 2, 0)),
    ((3, ((0, 1), (2,))), RISER, (2, 0, 1)),
    (RISER, RISER, (0, 1, 2)),
    ((3, ()), (3, ()), (0, 1, 2)),
    (RISER, (3, ((0, 1), (0, 2))), None),
    (RISER, (3, ()), None),
    ((3, ((),)), (3, ()), None),
    ((4, ((0,),)), (4, ((3,),)), (1, 2, 3, 0)),
    ((4, ((3,),)), (4, ((0,),)), (3, 0, 1, 2)),
    ((1, ((0,),)), (1, ((0,),)), (0,)),
]

# All risers of up to three switches, and some of four and five.
SOME = RISERS[1] + RISERS[2] + RISERS[3] + RISERS[4][::7] + RISERS[5][::16]


def orders_of(many):
    return list(permutations(range(many)))


class Keeping(Asking):
    """[91]: the namings that keep a riser."""

    def test_written_out(self):
        for riser, orders, _, _ in TOLD:
            self.same(keeping(riser), orders)

    def test_by_each_order(self):
        for riser in SOME:
            orders = [order for order in orders_of(riser[0]) if named(riser, order) == riser]
            self.same(keeping(riser), sorted(orders))

    def test_a_new_list_each_time(self):
        for riser, orders, _, _ in TOLD:
            told = keeping(riser)
            told.append(None)
            told[0] = "0"
            self.same(keeping(riser), orders)

    def test_no_riser(self):
        for thing in NO_RISERS:
            self.refused(NoRiser, keeping, thing)


class Naming(Asking):
    """[91]: whether two risers are alike, and the first order that shows it."""

    def test_written_out(self):
        for one, other, order in NAMINGS:
            self.same(naming(one, other), order)
            self.same(are_alike(one, other), order is not None)

    def test_all_pairs_of_up_to_three_switches(self):
        for many in (1, 2, 3):
            for one, other in product(RISERS[many], repeat=2):
                told = [order for order in orders_of(many) if named(one, order) == other]
                self.same(naming(one, other), min(told, default=None))
                self.same(are_alike(one, other), told != [])

    def test_of_risers_and_of_these_named(self):
        for riser in RISERS[4][::9] + RISERS[5][::20]:
            orders = orders_of(riser[0])
            for order in orders[::11]:
                other = named(riser, order)
                first = [one for one in orders if named(riser, one) == other][0]
                self.same(naming(riser, other), first)
                self.same(are_alike(riser, other), True)
                self.same(are_alike(other, riser), True)

    def test_of_those_that_are_not_alike(self):
        for many, step in ((4, 13), (5, 25)):
            for one, other in product(RISERS[many][::step], repeat=2):
                alike = any(named(one, order) == other for order in orders_of(many))
                self.same(are_alike(one, other), alike)

    def test_unlike_many_switches(self):
        for some, more in permutations(range(1, 6), 2):
            for least in ((), ((),), ((0,),)):
                self.refused(NoRiser, naming, (some, least), (more, least))
                self.refused(NoRiser, are_alike, (some, least), (more, least))

    def test_no_riser(self):
        for thing in NO_RISERS:
            for action in (naming, are_alike):
                for other in (RISER, None, thing):
                    self.refused(NoRiser, action, thing, other)
                    self.refused(NoRiser, action, other, thing)


class LeastAlike(Asking):
    """[92]: the least alike of a riser, and how many unlike risers it is named as."""

    def test_written_out(self):
        for riser, _, least, many in TOLD:
            self.same(least_alike(riser), least)
            self.same(named_many(riser), many)

    def test_by_all_orders(self):
        for riser in SOME:
            told = {named(riser, order) for order in orders_of(riser[0])}
            self.same(least_alike(riser), min(told))
            self.same(named_many(riser), len(told))

    def test_no_riser(self):
        for thing in NO_RISERS:
            self.refused(NoRiser, least_alike, thing)
            self.refused(NoRiser, named_many, thing)


class Kinds(Asking):
    """[93]: all least alike risers of at most three switches."""

    def test_written_out(self):
        self.same(kinds(1), [(1, ()), (1, ((),)), (1, ((0,),))])
        self.same(kinds(2), [(2, ()), (2, ((),)), (2, ((0,),)), (2, ((0,), (1,))), (2, ((0, 1),))])
        self.same(kinds(3), [
            (3, ()), (3, ((),)), (3, ((0,),)), (3, ((0,), (1,))), (3, ((0,), (1,), (2,))),
            (3, ((0,), (1, 2))), (3, ((0, 1),)), (3, ((0, 1), (0, 2))),
            (3, ((0, 1), (0, 2), (1, 2))), (3, ((0, 1, 2),))])

    def test_of_all_risers_by_all_orders(self):
        for many in (1, 2, 3):
            least = {min(named(riser, order) for order in orders_of(many))
                     for riser in RISERS[many]}
            self.same(kinds(many), sorted(least))

    def test_a_new_list_each_time(self):
        for many in (1, 2, 3):
            told = kinds(many)
            before = list(told)
            told.append(None)
            told[0] = "0"
            self.same(kinds(many), before)

    def test_too_many(self):
        self.refused(TooMany, kinds, 4)
        self.refused(TooMany, kinds, 5)

    def test_no_number(self):
        for many in NO_MANY:
            self.refused(NoNumber, kinds, many)


class What94Says(Asking):
    """[94]: what follows of alike risers."""

    def test_named_as_times_kept_by_are_all_orders(self):
        for riser in SOME:
            self.same(named_many(riser) * len(keeping(riser)), factorial(riser[0]))

    def test_alike_risers(self):
        for riser in SOME[::2]:
            for order in orders_of(riser[0])[::13]:
                other = named(riser, order)
                self.same(least_alike(other), least_alike(riser))
                self.same(named_many(other), named_many(riser))
                self.same(holds_many(other), holds_many(riser))
                self.same(are_alike(mirror(other), mirror(riser)), True)

    def test_alike_just_where_the_least_alike_is_the_same(self):
        for one, other in product(RISERS[3], repeat=2):
            self.same(are_alike(one, other), least_alike(one) == least_alike(other))


class NothingIsChanged(Asking):
    """[4]: what is handed in stays as it is, and the same asked has the same answer."""

    def test_it_all(self):
        for thing in ODD_THINGS + NO_MANY + [RISER, (3, [(0,)]), 2, 4] + EACH_RISER[::29]:
            for action in (*OF_ONE, kinds):
                self.asked_twice(action, thing)
            for action in (are_alike, naming):
                self.asked_twice(action, thing, thing)
                self.asked_twice(action, RISER, thing)
                self.asked_twice(action, thing, RISER)
