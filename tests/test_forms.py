from itertools import combinations, product

from onlyrisers.bounds import mirror
from onlyrisers.errors import NoForm, NoNumber, NoRiser
from onlyrisers.forms import by_form, frugal_form, is_form, is_frugal, plain_form
from onlyrisers.joins import both, either
from tests.asking import Asking
from tests.making import (BIG, EACH_RISER, NO_MANY, NO_RISERS, ODD_THINGS, RISERS, riser_where,
                          stands_of)

RISER = (3, ((0,), (1, 2)))
FORM = ("any", 0, ("all", 1, 2))

# Each written out by hand: number of switches, form, least stands and whether it is frugal.
TOLD = [
    (1, 0, ((0,),), True),
    (5, 4, ((4,),), True),
    (3, ("all",), ((),), True),
    (3, ("any",), (), True),
    (3, ("all", 1), ((1,),), True),
    (3, ("any", 1), ((1,),), True),
    (3, FORM, ((0,), (1, 2)), True),
    (3, ("any", ("all", 1, 2), 0), ((0,), (1, 2)), True),
    (3, ("all", 0, ("any", 1, 2)), ((0, 1), (0, 2)), True),
    (3, ("any", ("all", 0, 1), ("all", 0, 2)), ((0, 1), (0, 2)), False),
    (3, ("any", ("all", 0, 1), ("all", 0, 2), ("all", 1, 2)), ((0, 1), (0, 2), (1, 2)), False),
    (3, ("all", 0, 0), ((0,),), False),
    (3, ("any", 0, ("all", 0, 1)), ((0,),), False),
    (3, ("all", 0, ("any",)), (), True),
    (3, ("all", 0, ("all",)), ((0,),), True),
    (3, ("any", 0, ("any",)), ((0,),), True),
    (3, ("any", 0, ("all",)), ((),), True),
    (3, ("any", ("any",), ("any",)), (), True),
    (3, ("all", ("all",), ("all",)), ((),), True),
    (3, ("all", ("any",), ("all",)), (), True),
    (4, ("all", ("any", 0, 1), ("any", 2, 3)), ((0, 2), (0, 3), (1, 2), (1, 3)), True),
    (5, ("all", ("any", ("all", ("any", ("all", 0, 1), 2), 3), 4)),
     ((0, 1, 3), (2, 3), (4,)), True),
    (5, ("any", ("any", ("any", ("any", ("any", 3))))), ((3,),), True),
    (5, ("all", ("all", ("all", ("all", ("all",))))), ((),), True),
    (5, ("all", 0, 1, 2, 3, 4), ((0, 1, 2, 3, 4),), True),
    (5, ("any", 4, 3, 2, 1, 0), ((0,), (1,), (2,), (3,), (4,)), True),
]

# None of these is a form of three switches.
NO_FORMS = [thing for thing in ODD_THINGS if isinstance(thing, bool) or thing not in (0, 1)] + [
    3, -1, 5, 7, (), (0,), (0, 1), (0, 1, 2), ((),), (("all",),), ("ALL",), ("Any", 0), ("or", 0),
    ("", 0), ("al", 0), ("alll", 0), ("any ", 0), (" any", 0), ("all",) * 2, ("any", "any"),
    ("all", "0"), ("all", ""), ("all", ()), ("any", 0, ()), ("any", None), ("any", 0, None),
    ("any", True), ("all", False, 1), ("all", 0, True), ("all", 3), ("all", -1), ("all", BIG),
    ("all", 0, 1, 2, 3), ["all"], ["all", 0], ["any", 0, ("all", 1)], ("any", ["all", 1]),
    ("any", 0, ["all", 1, 2]), ("all", [0]), ("all", [0, 1]), ("all", {}), ("any", {0: 1}), "all",
    "any", "0", (0, "all"), (0, "any", 1), (None, 0), (True, 0), (("all", 0), 1), (("any",), 0, 1),
    ("any", ("all", ("any", ("all", ("any", True))))), ("any", ("all", ("any", ("all", (0,))))),
    ("any", ("all", ("any", ("all", ("or", 0))))), ("any", 0, ("all", 1, ("any", 3))), RISER,
    ("any", ("any", ("any", ("any", ("any", ("any",)))))),
    ("any", ("any", ("any", ("any", ("any", ("all", 0)))))),
    ("all", ("all", ("all", ("all", ("all", ("all", 0)))))),
    ("all", 0, ("any", 1, ("all", 2, ("any", 0, ("all", 1, ("any", 2)))))),
    ("all", ("any",), 0, ("any", 1, ("all", 2, ("any", 0, ("all", 1, ("any",))))), 1),
    ("all", ("all", ("all", ("all", ("all", ("all", ("all", ("all",)))))))),
]


def truth_of(form, stand):
    """Whether a form holds at a stand, by the very words."""
    if isinstance(form, int):
        return form in stand
    word, *forms = form
    for one in forms:
        if truth_of(one, stand) != (word == "all"):
            return word == "any"
    return word == "all"


def switches_in(form):
    return [form] if isinstance(form, int) else [s for one in form[1:] for s in switches_in(one)]


def other_way(form):
    """The form with all and any exchanged throughout."""
    if isinstance(form, int):
        return form
    return ({"all": "any", "any": "all"}[form[0]],) + tuple(other_way(one) for one in form[1:])


def small_forms(many):
    """Forms of up to three parts, of forms of up to two switches each."""
    flat = list(range(many)) + [(word, *some) for word in ("all", "any") for size in range(3)
                                for some in combinations(range(many), size)]
    return flat + [(word, *some) for word in ("all", "any") for size in (1, 2, 3)
                   for some in list(product(flat, repeat=size))[::1 + 40 * (size == 3)]]


def deep_form(depth, many, seed):
    """A form of all and any by turns, so many within one another, unlike ones by each seed."""
    if depth == 0:
        return seed % many
    word = ("all", "any")[(depth + seed) % 2]
    more = [(seed // 3 + place) % many for place in range(seed % 3)]
    return (word, *more[:1], deep_form(depth - 1, many, seed * 5 + 1), *more[1:])


def frugal_ones(many):
    """All risers that have a frugal form: made of two of unlike switches, one by one."""
    always, never = (many, ((),)), (many, ())
    of_part = {(switch,): {(many, ((switch,),))} for switch in range(many)}
    for size in range(2, many + 1):
        for part in combinations(range(many), size):
            of_part[part] = {
                joined(one, other) for less in range(1, size)
                for some in combinations(part, less)
                for one in of_part[some]
                for other in of_part[tuple(switch for switch in part if switch not in some)]
                for joined in (either, both)}
    return {always, never}.union(*of_part.values())


FORMS = [(many, form) for many in (1, 2, 3) for form in small_forms(many)[::many]] + [
    (many, deep_form(depth, many, seed))
    for many in range(1, 6) for depth in range(6) for seed in range(12)]


class IsForm(Asking):
    """[81]: whether a thing is a form of a number of switches."""

    def told(self, thing, many, expected):
        with self.subTest(thing=thing, many=many):
            self.assertIs(is_form(thing, many), expected)

    def test_written_out(self):
        for many, form, _, _ in TOLD:
            self.told(form, many, True)
            for other in range(1, 6):
                self.told(form, other, max(switches_in(form), default=0) < other)

    def test_of_each_depth(self):
        for many, form in FORMS:
            self.told(form, many, True)
            self.told(form, 5, True)

    def test_six_within_one_another(self):
        for many in range(1, 6):
            for seed in range(12):
                for depth in range(5):
                    self.told(("all", deep_form(depth, many, seed)), many, True)
                self.told(("all", deep_form(5, many, seed)), many, False)
                self.told(("any", 0, ("all",), deep_form(5, many, seed)), many, False)
                self.told(deep_form(6, many, seed), many, False)
                self.told(deep_form(7, many, seed), many, False)

    def test_a_switch_is_not_counted(self):
        self.told(("all", ("any", ("all", ("any", ("all", 0))))), 1, True)
        self.told(("all", ("any", ("all", ("any", ("all",))))), 1, True)
        self.told(("all", ("any", ("all", ("any", ("all", ("any",)))))), 1, False)

    def test_a_switch_beyond(self):
        for many in range(1, 6):
            for switch in (many, many + 1, 5, -1, BIG, -BIG):
                for form in (switch, ("all", switch), ("any", 0, switch),
                             ("any", ("all", ("any", ("all", ("any", switch)))))):
                    self.told(form, many, False)

    def test_one_thing_turned_at_each_depth(self):
        def around(thing, depth):
            for word in ("all", "any", "all", "any")[:depth]:
                thing = (word, 0, thing)
            return thing
        for depth in range(5):
            for good in (0, 2, ("all",), ("any",), ("all", 0), ("any", 1, 2)):
                self.told(around(good, depth), 3, True)
            for bad in (3, -1, True, False, None, "0", "all", (), (0,), ("or",), ("ALL", 0),
                        ["all"], ["any", 0], ("all", True), ("any", None), ("all", [0]), ("all", ()),
                        (("all",),), (None,), {}, [], {"all": 0}, ("any", "all")):
                self.told(around(bad, depth), 3, False)

    def test_whatever_kind(self):
        for thing in NO_FORMS:
            self.told(thing, 3, False)

    def test_odd_things_are_none_but_for_switches(self):
        for thing in ODD_THINGS:
            for many in range(1, 6):
                whole = isinstance(thing, int) and not isinstance(thing, bool)
                self.told(thing, many, whole and 0 <= thing < many)

    def test_no_number_whatever_the_thing(self):
        for many in NO_MANY:
            for thing in NO_FORMS + [FORM, 0, ("all",)]:
                self.refused(NoNumber, is_form, thing, many)


class ByForm(Asking):
    """[81]: the riser that a form tells."""

    def test_written_out(self):
        for many, form, least, _ in TOLD:
            self.same(by_form(many, form), (many, least))

    def test_stand_by_stand(self):
        for many, form in FORMS:
            self.same(by_form(many, form), riser_where(many, lambda one: truth_of(form, one)))

    def test_without_any_form_within(self):
        for many in range(1, 6):
            self.same(by_form(many, ("all",)), (many, ((),)))
            self.same(by_form(many, ("any",)), (many, ()))

    def test_a_switch(self):
        for many in range(1, 6):
            for switch in range(many):
                for form in (switch, ("all", switch), ("any", switch), ("any", ("all", switch))):
                    self.same(by_form(many, form), (many, ((switch,),)))

    def test_no_form(self):
        for thing in NO_FORMS:
            self.refused(NoForm, by_form, 3, thing)
        for many in range(1, 6):
            self.refused(NoForm, by_form, many, many)
            self.refused(NoForm, by_form, many, ("any", 0, many))

    def test_no_number_goes_ahead_of_no_form(self):
        for many in NO_MANY:
            for thing in NO_FORMS + [FORM, 0, ("all",)]:
                self.refused(NoNumber, by_form, many, thing)


class PlainForm(Asking):
    """[82]: the plain form of a riser."""

    def test_written_out(self):
        self.same(plain_form(RISER), ("any", ("all", 0), ("all", 1, 2)))
        self.same(plain_form((3, ((0, 1), (2,)))), ("any", ("all", 0, 1), ("all", 2)))
        self.same(plain_form((1, ((0,),))), ("any", ("all", 0)))

    def test_in_order(self):
        for riser in EACH_RISER:
            told = ["any"]
            for stand in riser[1]:
                told.append(("all", *stand))
            self.same(plain_form(riser), tuple(told))

    def test_of_one_that_always_holds_and_one_that_never_does(self):
        for many in range(1, 6):
            self.same(plain_form((many, ((),))), ("any", ("all",)))
            self.same(plain_form((many, ())), ("any",))

    def test_no_riser(self):
        for thing in NO_RISERS:
            self.refused(NoRiser, plain_form, thing)


class Frugal(Asking):
    """[83]: whether a form is frugal, and some frugal form of a riser."""

    def test_written_out(self):
        for many, form, _, frugal in TOLD:
            self.same(is_frugal(many, form), frugal)

    def test_each_switch_once_at_most(self):
        for many, form in FORMS:
            switches = switches_in(form)
            self.same(is_frugal(many, form), all(switches.count(s) == 1 for s in switches))

    def test_a_switch_twice_at_any_places(self):
        form = ("any", ("all", 0, ("any", 1, 2)), ("all", 3, ("any", 4)))
        self.same(is_frugal(5, form), True)
        for twice in range(5):
            for one in (("any", twice, form), ("any", form, twice), ("all", form, ("any", twice)),
                        ("any", ("all", 0, ("any", 1, 2), twice), ("all", 3, ("any", 4))),
                        ("any", ("all", 0, ("any", 1, 2)), ("all", 3, ("any", 4, twice)))):
                self.same(is_frugal(5, one), False)

    def test_no_form(self):
        for thing in NO_FORMS:
            self.refused(NoForm, is_frugal, 3, thing)

    def test_no_number_goes_ahead_of_no_form(self):
        for many in NO_MANY:
            for thing in NO_FORMS + [FORM, 0, ("all",)]:
                self.refused(NoNumber, is_frugal, many, thing)

    def test_none_just_where_there_is_none(self):
        for many in range(1, 6):
            frugal = frugal_ones(many)
            for riser in RISERS[many] + sorted(frugal):
                form = frugal_form(riser)
                if riser not in frugal:
                    self.same(form, None)
                    continue
                with self.subTest(riser=riser, form=form):
                    self.assertIs(is_form(form, many), True)
                    self.assertIs(is_frugal(many, form), True)
                    self.same(by_form(many, form), riser)

    def test_so_many_have_one(self):
        for many, there_are in ((1, 3), (2, 6), (3, 19), (4, 102)):
            told = [riser for riser in RISERS[many] if frugal_form(riser) is not None]
            self.assertEqual(len(told), there_are)

    def test_of_some_that_have_none(self):
        for riser in ((3, ((0, 1), (0, 2), (1, 2))), (4, ((0, 1), (1, 2), (2, 3))),
                      (5, ((0, 1), (0, 2), (1, 2))), (5, ((0, 1), (1, 2), (2, 3), (3, 4)))):
            self.same(frugal_form(riser), None)

    def test_no_riser(self):
        for thing in NO_RISERS:
            self.refused(NoRiser, frugal_form, thing)


class What84Says(Asking):
    """[84]: what follows of forms."""

    def test_a_riser_by_its_plain_form_is_itself(self):
        for riser in EACH_RISER:
            self.same(by_form(riser[0], plain_form(riser)), riser)

    def test_all_and_any_exchanged_give_the_mirror(self):
        for many, form in FORMS + [(many, form) for many, form, _, _ in TOLD]:
            self.same(by_form(many, other_way(form)), mirror(by_form(many, form)))
        for riser in EACH_RISER:
            self.same(by_form(riser[0], other_way(plain_form(riser))), mirror(riser))

    def test_a_frugal_form_where_the_mirror_has_one(self):
        for riser in EACH_RISER:
            told, other = frugal_form(riser), frugal_form(mirror(riser))
            self.assertEqual(told is None, other is None)


class NothingIsChanged(Asking):
    """[4]: what is handed in stays as it is, and the same asked has the same answer."""

    def test_it_all(self):
        for thing in NO_FORMS + NO_MANY + [FORM, RISER, ["any", ["all", 0], [1]], ("any", [0])]:
            self.asked_twice(plain_form, thing)
            self.asked_twice(frugal_form, thing)
            for many in (3, thing):
                self.asked_twice(is_form, thing, many)
                self.asked_twice(by_form, many, thing)
                self.asked_twice(is_frugal, many, thing)
        for riser in EACH_RISER[::5]:
            self.asked_twice(plain_form, riser)
            self.asked_twice(frugal_form, riser)
