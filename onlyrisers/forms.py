"""Forms, of switches and of all and any of forms, and the risers that they tell."""

from itertools import combinations

from onlyrisers.errors import NoForm
from onlyrisers.risers import is_switch_of, least_of, refuse_no_many, refuse_no_riser
from onlyrisers.tables import all_stands

ALL = "all"
ANY = "any"
MOST_WITHIN = 5


def is_form_within(thing, many, depth):
    """Whether a thing of whatever kind is a form, at most so many deep, of so many switches."""
    if is_switch_of(thing, many):
        return True
    if depth == 0 or not isinstance(thing, tuple) or len(thing) == 0:
        return False
    if thing[0] != ALL and thing[0] != ANY:
        return False
    return all(is_form_within(one, many, depth - 1) for one in thing[1:])


def is_form(thing, many):
    """Whether a thing of whatever kind is a form of a number of switches."""
    refuse_no_many(many)
    return is_form_within(thing, many, MOST_WITHIN)


def refuse_no_form(many, thing):
    """Raise what is due where a thing is no form of a number of switches."""
    if not is_form(thing, many):
        raise NoForm("this is no form of so many switches")


def form_holds(form, stand):
    """Whether the form holds at a stand."""
    if not isinstance(form, tuple):
        return form in stand
    truths = [form_holds(one, stand) for one in form[1:]]
    return all(truths) if form[0] == ALL else any(truths)


def by_form(many, form):
    """The riser, of so many switches, that the form tells."""
    refuse_no_form(many, form)
    return many, least_of([stand for stand in all_stands(many) if form_holds(form, stand)])


def plain_form(riser):
    """The any of an all for each least stand of the riser."""
    refuse_no_riser(riser)
    return (ANY,) + tuple([(ALL,) + stand for stand in riser[1]])


def switches_of(form):
    """The switches that stand in the form, each as often as it does."""
    if not isinstance(form, tuple):
        return [form]
    return [switch for one in form[1:] for switch in switches_of(one)]


def is_frugal(many, form):
    """Whether each switch stands in the form once at most."""
    refuse_no_form(many, form)
    switches = switches_of(form)
    return len(set(switches)) == len(switches)


def kept(stand, part):
    """The stand of the switches that are on and in a part of all switches."""
    return tuple([switch for switch in stand if switch in part])


def parted(least, part, rest):
    """The form's word, and the least stands of both parts, that make the least ones; or None."""
    ones = sorted({kept(stand, part) for stand in least})
    others = sorted({kept(stand, rest) for stand in least})
    # No two least stands are alike in both parts, so by their number all pairs are there.
    if len(ones) * len(others) == len(least):
        return ALL, ones, others
    if all(stand in ones or stand in others for stand in least):
        return ANY, [one for one in ones if one], [one for one in others if one]
    return None


def with_both(word, one, other):
    """The form of a word and two forms, None where one of them is None."""
    return None if one is None or other is None else (word, one, other)


def frugal_of(least):
    """Some frugal form that has these least stands, None where there is none."""
    switches = sorted({switch for stand in least for switch in stand})
    if len(switches) == 0:
        return (ALL,) if least else (ANY,)
    if len(switches) == 1:
        return switches[0]
    parts = [part for size in range(1, len(switches)) for part in combinations(switches, size)]
    for part in parts:
        found = parted(least, part, [one for one in switches if one not in part])
        if found is not None:
            word, ones, others = found
            # Where there is a frugal form each part has one, so no other parts are looked at.
            return with_both(word, frugal_of(ones), frugal_of(others))
    return None


def frugal_form(riser):
    """Some frugal form that tells the riser, None where it has none."""
    refuse_no_riser(riser)
    return frugal_of(riser[1])
