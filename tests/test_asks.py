from itertools import combinations, permutations, product

from onlyrisers.asks import (are_answers, asks_for, clash_of, due_asks, greatest_fit, known,
                             least_fit, leaves_none, open_stands)
from onlyrisers.bounds import greatest
from onlyrisers.errors import NoAnswers, NoNumber, NoRiser, NoStand
from tests.asking import Asking
from tests.making import (BIG, EACH_RISER, NO_MANY, NO_RISERS, ODD_THINGS, RISERS, holds_at,
                          rest_of, riser_where, stands_of, within)

RISER = (3, ((0,), (1, 2)))
ANSWERS = [((0,), True), ((1,), False)]
OF_ANSWERS = (clash_of, open_stands, least_fit, greatest_fit)

# None of these is answers of three switches.
NO_ANSWERS = [thing for thing in ODD_THINGS if thing != []] + [
    tuple(ANSWERS), ANSWERS[0], (), [ANSWERS], [ANSWERS[0], None], [None, ANSWERS[0]],
    [((0,), 1)], [((0,), 0)], [((0,), None)], [((0,), "True")], [((0,), ())], [((0,), [True])],
    [((0,),)], [()], [((0,), True, False)], [((0,), True, ())], [(True, (0,))], [(0, True)],
    [[(0,), True]], [([0], True)], [({}, True)], [("0", True)], [(None, True)], [(True, True)],
    [((1, 0), True)], [((1, 1), True)], [((3,), True)], [((0, 3), False)], [((-1,), True)],
    [((True,), True)], [((False,), False)], [((0, True), True)], [((BIG,), True)], [((0, "1"), True)],
    [((), True), ((0,), False), ((1,), 0)], [((1, 0), True), ((0,), False)], {(0,): True},
    {((0,), True): 0}, [(0,)], [(0,), (1,)], [True], [RISER], [((((0,),),), True)],
]

# None of these is a stand of three switches.
NO_STANDS = ODD_THINGS + [(3,), (0, 3), (1, 0), (1, 1), (0, 2, 1), (0, True), ((0,),), [], [0]]

# Answers that clash, of three switches, and their first clash.
CLASHES = [
    ([((0,), True), ((0, 1), False)], (0, 1)),
    ([((0, 1), False), ((0,), True)], (1, 0)),
    ([((0,), True), ((0,), False)], (0, 1)),
    ([((0,), False), ((0,), True)], (1, 0)),
    ([((), True), ((0, 1, 2), False)], (0, 1)),
    ([((0,), True), ((1,), True), ((1, 2), False), ((0, 1), False)], (0, 3)),
    ([((0, 1), False), ((1, 2), False), ((2,), True), ((0,), True)], (2, 1)),
    ([((0, 1), False), ((1,), True), ((0, 2), False), ((), True)], (1, 0)),
    ([((1, 2), True), ((1,), True), ((0, 1), False), ((0, 1), False)], (1, 2)),
    ([((1, 2), True), ((0, 1, 2), True), ((0, 1, 2), False), ((1, 2), False)], (0, 2)),
    ([((2,), False), ((0, 1), False), ((1,), False), ((0, 1, 2), True), ((1,), True)], (4, 1)),
    ([((0,), True)] * 2 + [((0, 1), False)] * 2, (0, 2)),
    ([((0, 1, 2), False)] * 3 + [((1,), True)] * 3, (3, 0)),
]


def answers_of(riser, stands):
    return [(stand, holds_at(riser, stand)) for stand in stands]


def known_by_words(answers, stand):
    if any(truth and within(one, stand) for one, truth in answers):
        return True
    if any(not truth and within(stand, one) for one, truth in answers):
        return False
    return None


def clash_by_words(answers):
    places = [(i, j) for i, (one, truth) in enumerate(answers)
              for j, (other, untruth) in enumerate(answers)
              if truth and not untruth and within(one, other)]
    return min(places, default=None)


def some_answers():
    """Pairs of a number and answers that clash not, all short ones and of many risers."""
    for many in (1, 2):
        for size in range(4):
            for answers in product(product(stands_of(many), (False, True)), repeat=size):
                if clash_by_words(answers) is None:
                    yield many, list(answers)
    for riser in RISERS[3]:
        for stands in list(combinations(stands_of(3), 3))[::2]:
            yield 3, answers_of(riser, stands[::-1])
    for many, step in ((4, 3), (5, 4)):
        for at, riser in enumerate(RISERS[many][::step]):
            stands = stands_of(many)[at % 7::3 + at % 5]
            yield many, answers_of(riser, stands)
            yield many, answers_of(riser, stands[::-1] + stands[1:2])


SOME_ANSWERS = list(some_answers())


def due_by_words(riser):
    many = riser[0]
    held = {stand: holds_at(riser, stand) for stand in stands_of(many)}
    high = [stand for stand in held if not held[stand] and all(
        held[tuple(sorted(stand + (switch,)))] for switch in rest_of(many, stand))]
    return sorted(list(riser[1]) + high)


class AreAnswers(Asking):
    """[61]: whether a thing is answers of a number of switches."""

    def told(self, thing, many, expected):
        with self.subTest(thing=thing, many=many):
            self.assertIs(are_answers(thing, many), expected)

    def test_of_each_number_of_switches(self):
        for many in range(1, 6):
            self.told([], many, True)
            for stand, truth in product(stands_of(many), (True, False)):
                self.told([(stand, truth)], many, True)
            answers = [(stand, len(stand) > 1) for stand in stands_of(many)]
            self.told(answers, many, True)
            self.told(answers[::-1], many, True)
            self.told(answers + answers, many, True)
            self.told(answers + [((), True)], many, True)

    def test_those_that_clash_are_answers_too(self):
        for answers, _ in CLASHES:
            self.told(answers, 3, True)

    def test_answers_of_another_number(self):
        for many in range(1, 6):
            for other in range(1, 6):
                self.told([((many - 1,), True)], other, other >= many)
                self.told([((), False), (tuple(range(many)), True)], other, other >= many)

    def test_one_thing_turned_at_each_place(self):
        for many in (2, 3, 5):
            answers = [(stand, len(stand) > 1) for stand in stands_of(many)]
            for at, (stand, truth) in enumerate(answers):
                for one in ((stand, int(truth)), (stand, None), (stand,), (truth, stand), stand,
                            (stand, truth, truth), (stand, truth, None), [stand, truth], truth,
                            (list(stand), truth), (stand + (many,), truth), ((-1,) + stand, truth),
                            (stand + (True,), truth), ((stand,), truth), ((stand, truth),), None):
                    self.told(answers[:at] + [one] + answers[at + 1:], many, False)
                if len(stand) > 1:
                    one = (stand[::-1], truth)
                    self.told(answers[:at] + [one] + answers[at + 1:], many, False)

    def test_a_tuple_or_dict_of_all(self):
        for many in range(1, 6):
            answers = [(stand, len(stand) > 1) for stand in stands_of(many)]
            self.told(tuple(answers), many, False)
            self.told(dict(answers), many, False)
            self.told([answers], many, False)
            self.told((), many, False)
            self.told({}, many, False)

    def test_whatever_kind(self):
        for thing in NO_ANSWERS:
            self.told(thing, 3, False)
            if thing not in ([((3,), True)], [((0, 3), False)]):
                self.told(thing, 5, False)

    def test_no_number_whatever_the_thing(self):
        for many in NO_MANY:
            for thing in NO_ANSWERS + [[], ANSWERS]:
                self.refused(NoNumber, are_answers, thing, many)


class ClashOf(Asking):
    """[61]: the first clash of answers."""

    def test_written_out(self):
        for answers, told in CLASHES:
            self.same(clash_of(3, answers), told)
            self.same(clash_of(5, answers), told)

    def test_none(self):
        for answers in ([], ANSWERS, [((0, 1), True), ((0,), False)], [((1,), True)] * 3,
                        [((), False), ((0,), True)], [((0,), False), ((1, 2), True)],
                        [((0, 1), True), ((0, 2), False)]):
            self.same(clash_of(3, answers), None)

    def test_all_short_ones_by_the_very_words(self):
        for many, sizes in ((1, 5), (2, 4), (3, 3)):
            for size in range(sizes):
                for answers in product(product(stands_of(many), (False, True)), repeat=size):
                    told = clash_of(many, list(answers))
                    self.same(told, clash_by_words(answers))

    def test_answers_of_a_riser_clash_not_but_with_one_turned_they_do(self):
        for riser in RISERS[3] + RISERS[4][::9] + RISERS[5][::15]:
            answers = answers_of(riser, stands_of(riser[0])[::-1])
            self.same(clash_of(riser[0], answers), None)
            for at, (stand, truth) in enumerate(answers):
                turned = answers + [(stand, not truth)]
                told = (at, len(answers)) if truth else (len(answers), at)
                # Other ones may clash ahead of these two.
                self.same(clash_of(riser[0], turned), clash_by_words(turned))
                self.assertLessEqual(clash_of(riser[0], turned), told)

    def test_no_answers(self):
        for thing in NO_ANSWERS:
            self.refused(NoAnswers, clash_of, 3, thing)

    def test_no_number_goes_ahead_of_no_answers(self):
        for many in NO_MANY:
            for thing in NO_ANSWERS + [[], ANSWERS]:
                self.refused(NoNumber, clash_of, many, thing)


class Known(Asking):
    """[62]: whether a stand is known to hold, to fail, or open."""

    def test_written_out(self):
        for stand, told in (((), False), ((0,), True), ((1,), False), ((2,), None),
                            ((0, 1), True), ((0, 2), True), ((1, 2), None), ((0, 1, 2), True)):
            self.same(known(3, ANSWERS, stand), told)
            self.same(known(3, [], stand), None)

    def test_at_each_stand(self):
        for many, answers in SOME_ANSWERS:
            for stand in stands_of(many):
                self.same(known(many, answers, stand), known_by_words(answers, stand))

    def test_open_just_where_risers_that_fit_differ(self):
        for many, answers in SOME_ANSWERS:
            if many < 4:
                fits = [riser for riser in RISERS[many]
                        if all(holds_at(riser, one) == truth for one, truth in answers)]
                for stand in stands_of(many):
                    truths = {holds_at(riser, stand) for riser in fits}
                    told = None if len(truths) > 1 else truths.pop()
                    self.same(known(many, answers, stand), told)

    def test_no_stand(self):
        for stand in NO_STANDS:
            self.refused(NoStand, known, 3, ANSWERS, stand)
            self.refused(NoStand, known, 3, [], stand)

    def test_a_switch_beyond(self):
        for many in range(1, 6):
            self.refused(NoStand, known, many, [], (many,))
            self.refused(NoStand, known, many, [((0,), True)], tuple(range(many + 1)))

    def test_no_answers_goes_ahead_of_no_stand(self):
        for stand in ((0,), None, (3,), [0]):
            for thing in NO_ANSWERS:
                self.refused(NoAnswers, known, 3, thing, stand)
            for answers, _ in CLASHES:
                self.refused(NoAnswers, known, 3, answers, stand)

    def test_no_number_goes_ahead_of_all(self):
        for many in NO_MANY:
            for stand in ((0,), None, (3,), [0]):
                for thing in NO_ANSWERS[::3] + [[], ANSWERS, CLASHES[0][0]]:
                    self.refused(NoNumber, known, many, thing, stand)


class OpenAndFits(Asking):
    """[62]: the stands that are open, and the risers that fit."""

    def test_written_out(self):
        self.same(open_stands(3, ANSWERS), [(1, 2), (2,)])
        self.same(least_fit(3, ANSWERS), (3, ((0,),)))
        self.same(greatest_fit(3, ANSWERS), (3, ((0,), (2,))))
        answers = [((0, 1), True), ((0, 1, 2), True), ((2,), False), ((0,), False), ((), False)]
        self.same(open_stands(3, answers), [(0, 2), (1,), (1, 2)])
        self.same(least_fit(3, answers), (3, ((0, 1),)))
        self.same(greatest_fit(3, answers), (3, ((0, 2), (1,))))

    def test_without_answers(self):
        for many in range(1, 6):
            self.same(open_stands(many, []), sorted(stands_of(many)))
            self.same(least_fit(many, []), (many, ()))
            self.same(greatest_fit(many, []), (many, ((),)))

    def test_of_one_that_always_holds_and_one_that_never_does(self):
        for many in range(1, 6):
            for stand, truth, least in (((), True, ((),)), (tuple(range(many)), False, ())):
                self.same(open_stands(many, [(stand, truth)]), [])
                self.same(least_fit(many, [(stand, truth)]), (many, least))
                self.same(greatest_fit(many, [(stand, truth)]), (many, least))

    def test_stand_by_stand(self):
        for many, answers in SOME_ANSWERS:
            told = {stand: known_by_words(answers, stand) for stand in stands_of(many)}
            opened = [stand for stand in sorted(told) if told[stand] is None]
            self.same(open_stands(many, answers), opened)
            # One that fits holds where it is known to, and may hold where it is open.
            self.same(least_fit(many, answers), riser_where(many, lambda one: told[one] is True))
            self.same(greatest_fit(many, answers),
                      riser_where(many, lambda one: told[one] is not False))

    def test_of_all_risers_that_fit(self):
        for many, answers in SOME_ANSWERS:
            if many < 4:
                fits = [riser for riser in RISERS[many]
                        if all(holds_at(riser, one) == truth for one, truth in answers)]
                self.same(least_fit(many, answers), riser_where(
                    many, lambda one: all(holds_at(riser, one) for riser in fits)))
                self.same(greatest_fit(many, answers), riser_where(
                    many, lambda one: any(holds_at(riser, one) for riser in fits)))

    def test_a_new_list_each_time(self):
        for many, answers in ((3, ANSWERS), (3, []), (5, [])):
            told = open_stands(many, answers)
            before = list(told)
            told.append(None)
            told[0] = "0"
            self.same(open_stands(many, answers), before)

    def test_no_answers(self):
        for action in OF_ANSWERS[1:]:
            for thing in NO_ANSWERS:
                self.refused(NoAnswers, action, 3, thing)
            for answers, _ in CLASHES:
                self.refused(NoAnswers, action, 3, answers)

    def test_no_number_goes_ahead_of_no_answers(self):
        for many in NO_MANY:
            for action in OF_ANSWERS:
                for thing in NO_ANSWERS + [[], ANSWERS, CLASHES[0][0]]:
                    self.refused(NoNumber, action, many, thing)


class Due(Asking):
    """[63]: the asks that are due, and whether a list of stands leaves none open."""

    def test_written_out(self):
        self.same(due_asks(RISER), [(0,), (1,), (1, 2), (2,)])
        self.same(due_asks((3, ())), [(0, 1, 2)])
        self.same(due_asks((3, ((),))), [()])
        self.same(due_asks((2, ((0, 1),))), [(0,), (0, 1), (1,)])
        self.same(due_asks((1, ((0,),))), [(), (0,)])

    def test_least_and_greatest_ones_stand_by_stand(self):
        for riser in EACH_RISER:
            self.same(due_asks(riser), due_by_words(riser))
            self.same(due_asks(riser), sorted(list(riser[1]) + list(greatest(riser))))

    def test_a_new_list_each_time(self):
        for riser in (RISER, (3, ()), (3, ((),))):
            told = due_asks(riser)
            before = list(told)
            told.append(None)
            told[0] = "0"
            self.same(due_asks(riser), before)

    def test_leaves_none_of_those_due_in_each_order(self):
        for riser in EACH_RISER:
            due = due_by_words(riser)
            for stands in (due, due[::-1], due[1:] + due[:1], due + due, due + due[:1],
                           stands_of(riser[0]), due + stands_of(riser[0])):
                self.same(leaves_none(riser, stands), True)
        for stands in permutations(due_by_words(RISER)):
            self.same(leaves_none(RISER, list(stands)), True)

    def test_of_one_left_out(self):
        for riser in EACH_RISER:
            due = due_by_words(riser)
            self.same(leaves_none(riser, []), False)
            for at, stand in enumerate(due):
                self.same(leaves_none(riser, due[:at] + due[at + 1:]), False)
                more = [one for one in stands_of(riser[0]) if one != stand]
                self.same(leaves_none(riser, more), False)
                self.same(leaves_none(riser, more + more), False)

    def test_no_stand(self):
        due = due_by_words(RISER)
        for stands in (tuple(due), (), (0,), {}, {(0,): True}, None, True, 0, "", "0", RISER, BIG):
            self.refused(NoStand, leaves_none, RISER, stands)
        for at in range(len(due) + 1):
            for thing in NO_STANDS:
                self.refused(NoStand, leaves_none, RISER, due[:at] + [thing] + due[at:])
                self.refused(NoStand, leaves_none, RISER, [thing])

    def test_a_stand_beyond(self):
        for many in range(1, 6):
            for stand in ((many,), tuple(range(many + 1)), (-1,)):
                self.refused(NoStand, leaves_none, (many, ()), [stand])
                self.refused(NoStand, leaves_none, (many, ()), stands_of(many) + [stand])

    def test_no_riser(self):
        for thing in NO_RISERS:
            self.refused(NoRiser, due_asks, thing)
            for stands in ([], [(0,)], None, (), [None], [(9,)]):
                self.refused(NoRiser, leaves_none, thing, stands)


class AsksFor(Asking):
    """[64]: a list of stands that are asked one behind the other."""

    def test_each_is_open_by_those_ahead_and_none_behind_all(self):
        for riser in EACH_RISER:
            answers = []
            for stand in asks_for(riser):
                self.assertIn(stand, stands_of(riser[0]))
                self.assertIsNone(known_by_words(answers, stand), (riser, stand))
                answers.append((stand, holds_at(riser, stand)))
            for stand in stands_of(riser[0]):
                self.assertIs(known_by_words(answers, stand), holds_at(riser, stand))

    def test_never_more_than_told(self):
        for many, most in enumerate((2, 3, 6, 10, 20), 1):
            for riser in RISERS[many]:
                self.assertIs(type(asks_for(riser)), list)
                self.assertLessEqual(len(asks_for(riser)), most, riser)
        # Three of five and so many: of no riser more are due.
        middle = (5, tuple(combinations(range(5), 3)))
        self.assertEqual(len(asks_for(middle)), 20)

    def test_a_new_list_each_time(self):
        for riser in (RISER, (3, ()), (3, ((),))):
            told = asks_for(riser)
            before = list(told)
            told.append(None)
            told[0] = "0"
            self.same(asks_for(riser), before)

    def test_no_riser(self):
        for thing in NO_RISERS:
            self.refused(NoRiser, asks_for, thing)


class What65Says(Asking):
    """[65]: a list of stands leaves none open just where all that are due are among them."""

    def test_all_lists_of_up_to_three_switches(self):
        for riser in RISERS[1] + RISERS[2] + RISERS[3]:
            due = set(due_by_words(riser))
            stands = stands_of(riser[0])
            for size in range(len(stands) + 1):
                for some in combinations(stands, size):
                    self.same(leaves_none(riser, list(some)), due <= set(some))

    def test_many_lists_of_four_and_five(self):
        for riser in RISERS[4][::5] + RISERS[5][::7]:
            due, stands = set(due_by_words(riser)), stands_of(riser[0])
            for step in range(2, len(stands)):
                for some in (stands[::step], stands[:step], stands[step:], sorted(due)[:step],
                             sorted(due)[::-1] + stands[::step]):
                    self.same(leaves_none(riser, some), due <= set(some))

    def test_each_list_that_is_told_has_them(self):
        for riser in EACH_RISER:
            self.assertLessEqual(set(due_by_words(riser)), set(asks_for(riser)))
            self.same(leaves_none(riser, asks_for(riser)), True)


class NothingIsChanged(Asking):
    """[4]: what is handed in stays as it is, and the same asked has the same answer."""

    def test_it_all(self):
        things = NO_ANSWERS + NO_MANY + [ANSWERS, [], RISER, [(0,), (1,)], [[0], [1]], 3, 5]
        for thing in things + [answers for answers, _ in CLASHES]:
            self.asked_twice(due_asks, thing)
            self.asked_twice(asks_for, thing)
            for other in (RISER, (3, ((),)), thing):
                self.asked_twice(leaves_none, other, thing)
            for many in (3, thing):
                self.asked_twice(are_answers, thing, many)
                self.asked_twice(known, many, thing, (0,))
                self.asked_twice(known, many, ANSWERS, thing)
                for action in OF_ANSWERS:
                    self.asked_twice(action, many, thing)
        for many, answers in SOME_ANSWERS[::5]:
            for action in OF_ANSWERS:
                self.asked_twice(action, many, answers)
            self.asked_twice(known, many, answers, (0,))

    def test_what_is_done_to_answers_later_changes_nothing(self):
        answers = list(ANSWERS)
        told = least_fit(3, answers), greatest_fit(3, answers), open_stands(3, answers)
        before = repr(told)
        answers.clear()
        self.assertEqual(repr(told), before)
