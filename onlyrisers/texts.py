"""Risers written as texts, and read again."""

from onlyrisers.errors import NoText
from onlyrisers.risers import is_riser, refuse_no_riser

# Each at its own place.
FIGURES = ("0", "1", "2", "3", "4", "5", "6", "7", "8", "9")
NONE_ON = "-"


def show_stand(stand):
    """The stand, written as its switches."""
    return ",".join([str(switch) for switch in stand]) or NONE_ON


def show(riser):
    """The riser, written as how many switches it has and its least stands."""
    refuse_no_riser(riser)
    many, least = riser
    return " ".join([str(many), ":"] + [show_stand(stand) for stand in least])


def switches_in(word):
    """The switches that a word tells, in its order; None where it is no such word."""
    if word == NONE_ON:
        return ()
    figures = word.split(",")
    if not all(figure in FIGURES for figure in figures):
        return None
    return tuple([FIGURES.index(figure) for figure in figures])


def read(text):
    """The riser that is written as this text."""
    if not isinstance(text, str):
        raise NoText("this is no text")
    words = text.split(" ")
    if len(words) < 2 or words[0] not in FIGURES or words[1] != ":":
        raise NoText("this does not begin with a number of switches, a blank and a colon")
    riser = (FIGURES.index(words[0]), tuple([switches_in(word) for word in words[2:]]))
    # Each thing has just one word, so a riser told by the words is written just so.
    if not is_riser(riser):
        raise NoText("what this tells is no riser")
    return riser
