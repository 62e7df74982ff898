"""Answers, of stands and whether a riser that is looked for holds at them."""

from onlyrisers.bounds import greatest, least_crossing, others_of
from onlyrisers.errors import NoAnswers, NoStand
from onlyrisers.risers import (holds_by, is_stand_of, least_of, lies_within, refuse_no_many,
                               refuse_no_riser)
from onlyrisers.tables import all_stands


def is_answer_of(thing, many):
    """Whether a thing of whatever kind is one answer of so many switches."""
    if not isinstance(thing, tuple) or len(thing) != 2:
        return False
    stand, truth = thing
    return is_stand_of(stand, many) and isinstance(truth, bool)


def are_answers(thing, many):
    """Whether a thing of whatever kind is answers of a number of switches."""
    refuse_no_many(many)
    return isinstance(thing, list) and all(is_answer_of(one, many) for one in thing)


def clash(one, other):
    """Whether the one answer is with True, and lies within the other one, with False."""
    return one[1] and not other[1] and lies_within(one[0], other[0])


def clash_of(many, answers):
    """The first places of an answer with True and one with False that clash, or None."""
    if not are_answers(answers, many):
        raise NoAnswers("these are no answers of so many switches")
    for place, one in enumerate(answers):
        for other_place, other in enumerate(answers):
            if clash(one, other):
                return place, other_place
    return None


def refuse_clashing(many, answers):
    """Raise what is due where things are no answers of so many switches that clash not."""
    if clash_of(many, answers) is not None:
        raise NoAnswers("these answers clash")


def stands_with(answers, truth):
    """The stands of the answers with this truth, in order."""
    return [stand for stand, told in answers if told == truth]


def known_by(answers, stand):
    """Whether a riser with answers that clash not holds at a stand; None where it is open."""
    if holds_by(stands_with(answers, True), stand):
        return True
    if any(lies_within(stand, one) for one in stands_with(answers, False)):
        return False
    return None


def known(many, answers, stand):
    """Whether a stand is known to hold (True), to fail (False), or is open (None)."""
    refuse_clashing(many, answers)
    if not is_stand_of(stand, many):
        raise NoStand("this is no stand of so many switches")
    return known_by(answers, stand)


def open_by(many, answers):
    """The stands that are open by answers that clash not, a rising list."""
    return sorted([stand for stand in all_stands(many) if known_by(answers, stand) is None])


def open_stands(many, answers):
    """All stands that are open by the answers, a rising list."""
    refuse_clashing(many, answers)
    return open_by(many, answers)


def least_fit(many, answers):
    """The riser that fits the answers and is below each one that does."""
    refuse_clashing(many, answers)
    return many, least_of(stands_with(answers, True))


def greatest_fit(many, answers):
    """The riser that fits the answers and is above each one that does."""
    refuse_clashing(many, answers)
    # It fails just within the stands with False: where it has no switch of all the others.
    return many, least_crossing([others_of(many, one) for one in stands_with(answers, False)])


def due_asks(riser):
    """The least stands and the greatest ones of the riser, a rising list."""
    return sorted(greatest(riser) + riser[1])


def leaves_none(riser, stands):
    """Whether the riser's answers at a list of stands leave no stand open."""
    refuse_no_riser(riser)
    many, least = riser
    if not isinstance(stands, list) or not all(is_stand_of(one, many) for one in stands):
        raise NoStand("this is no list of stands of the riser's switches")
    return not open_by(many, [(one, holds_by(least, one)) for one in stands])


def asks_for(riser):
    """A list of stands, each open by the riser's answers at those ahead, none behind all."""
    # A due stand is known by no answer but its own, so each is open until it is asked; and
    # no fewer leave none open.
    return due_asks(riser)
