"""Counted: where a riser holds, where its switches decide, and how many risers there are."""

from onlyrisers.errors import TooMany
from onlyrisers.joins import is_below, refuse_no_pair
from onlyrisers.risers import (holds_by, one_lies_within, refuse_no_many, refuse_no_riser,
                               together)
from onlyrisers.tables import all_stands

# Above this number of switches there are too many risers to be told all.
FEW_SWITCHES = 3


def by_sizes(riser):
    """At how many stands of no switch, of one and so on to all the riser holds."""
    refuse_no_riser(riser)
    many, least = riser
    sizes = [len(stand) for stand in all_stands(many) if holds_by(least, stand)]
    return tuple([sizes.count(size) for size in range(many + 1)])


def holds_many(riser):
    """At how many stands the riser holds."""
    return sum(by_sizes(riser))


def decides_at(least, switch, stand):
    """Whether a riser with these least stands comes to hold at a stand by this switch."""
    # Where the switch is on already, the stand with it is the stand itself.
    return not holds_by(least, stand) and holds_by(least, together(stand, (switch,)))


def decides_many(riser, switch):
    """At how many stands of the riser this switch decides."""
    many, least = riser
    return len([stand for stand in all_stands(many) if decides_at(least, switch, stand)])


def decides(riser):
    """For each switch of the riser, at how many stands it decides."""
    refuse_no_riser(riser)
    return tuple([decides_many(riser, switch) for switch in range(riser[0])])


def all_apart(many):
    """All stands apart that there are of so many switches."""
    found = [()]
    for stand in sorted(all_stands(many)):
        more = [stands + (stand,) for stands in found]
        found = found + [stands for stands in more if not one_lies_within(stands)]
    return found


def all_risers(many):
    """All risers of so many switches, a rising list."""
    refuse_no_many(many)
    if many > FEW_SWITCHES:
        raise TooMany("these are more than three switches")
    return [(many, least) for least in sorted(all_apart(many))]


def between(one, other):
    """How many risers there are below which the one is and which are below the other."""
    refuse_no_pair(one, other)
    # With all their risers more than three switches are refused.
    return len([riser for riser in all_risers(one[0])
                if is_below(one, riser) and is_below(riser, other)])
