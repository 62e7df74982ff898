"""Tables: texts that tell of each stand, by its place, whether a riser holds there."""

from onlyrisers.errors import NoRise, NoText
from onlyrisers.risers import holds_by, refuse_no_riser

TABLE_LENGTHS = (2, 4, 8, 16, 32)


def switches_at(place, many):
    """The stand, of so many switches, whose sign is at this place of a table."""
    return tuple([switch for switch in range(many) if place >> switch & 1])


def all_stands(many):
    """All stands of so many switches, by their places in a table."""
    return [switches_at(place, many) for place in range(1 << many)]


def table(riser):
    """The table of the riser."""
    refuse_no_riser(riser)
    many, least = riser
    return "".join(["1" if holds_by(least, stand) else "0" for stand in all_stands(many)])


def refuse_no_table(text):
    """Raise NoText if a thing of whatever kind is no text of a table's length and signs."""
    if not isinstance(text, str) or len(text) not in TABLE_LENGTHS:
        raise NoText("this is no text of 2, 4, 8, 16 or 32 signs")
    if not all(sign in "01" for sign in text):
        raise NoText("this text has other signs than 0 and 1")


def switches_told(text):
    """How many switches a text of a table's length is of."""
    return TABLE_LENGTHS.index(len(text)) + 1


def fall_of(text):
    """The first fall of the text: a place with 1 and a switch that makes it 0, or None."""
    refuse_no_table(text)
    many = switches_told(text)
    for place, sign in enumerate(text):
        if sign == "1":
            for switch in range(many):
                # Where the switch is on already, this is the place itself.
                if text[place | 1 << switch] == "0":
                    return place, switch
    return None


def is_least_place(text, place):
    """Whether a table that falls nowhere holds at a place, but with no switch less."""
    if text[place] == "0":
        return False
    many = switches_told(text)
    lower = [place ^ 1 << switch for switch in range(many) if place >> switch & 1]
    return all(text[one] == "0" for one in lower)


def riser_of(text):
    """The riser whose table the text is."""
    if fall_of(text) is not None:
        raise NoRise("this table falls")
    many = switches_told(text)
    places = [place for place in range(len(text)) if is_least_place(text, place)]
    # Places do not rise as stands do: (0, 1) is ahead of (1,), but its place 3 is behind 2.
    return many, tuple(sorted([switches_at(place, many) for place in places]))
