"""A desk: it keeps a riser, is told lines, and answers with texts."""

from onlyrisers.alike import least_alike
from onlyrisers.bounds import greatest, mirror
from onlyrisers.counts import holds_many
from onlyrisers.errors import NoLine, NoNumber, NoText
from onlyrisers.forms import frugal_form
from onlyrisers.joins import both, either, held_off, held_on, mattering
from onlyrisers.risers import holds, rises
from onlyrisers.tables import table
from onlyrisers.texts import FIGURES, read, show, show_stand, switches_in
from onlyrisers.weights import weights_for


def yes_or_no(truth):
    """The word for a truth."""
    return "yes" if truth else "no"


def riser_told(text):
    """The riser that a line tells behind its word."""
    try:
        return read(text)
    except NoText:
        raise NoLine("behind this word a riser is due") from None


def switch_told(text):
    """The number of a switch that a line tells behind its word."""
    if text not in FIGURES:
        raise NoLine("behind this word a single figure is due")
    return FIGURES.index(text)


def stand_told(text):
    """The switches of a stand that a line tells behind its word."""
    switches = switches_in(text)
    if switches is None or not rises(switches):
        raise NoLine("behind this word a stand is due")
    return switches


def answer(riser, line):
    """The answer to a line that asks something of the riser, None where it asks nothing."""
    word, _, rest = line.partition(" ")
    if word == "holds":
        return yes_or_no(holds(riser, stand_told(rest)))
    if line == "told":
        return show(riser)
    if line == "table":
        return table(riser)
    if line == "many":
        return str(holds_many(riser))
    if line == "greatest":
        return " ".join([show_stand(stand) for stand in greatest(riser)]) or "none"
    if line == "matters":
        return show_stand(mattering(riser))
    if line == "alike":
        return show(least_alike(riser))
    if line == "weights":
        return yes_or_no(weights_for(riser) is not None)
    if line == "frugal":
        return yes_or_no(frugal_form(riser) is not None)
    return None


def changed(riser, line):
    """What the riser becomes by a line that changes it."""
    word, _, rest = line.partition(" ")
    if line == "mirror":
        return mirror(riser)
    if word == "riser":
        return riser_told(rest)
    if word == "either":
        return either(riser, riser_told(rest))
    if word == "both":
        return both(riser, riser_told(rest))
    if word == "on":
        return held_on(riser, switch_told(rest))
    if word == "off":
        return held_off(riser, switch_told(rest))
    raise NoLine("this is no line of a desk")


class Desk:
    """Keeps a riser, at first that of one switch that never holds."""

    def __init__(self):
        # What is kept stands last, behind what was kept ahead of each change that stands.
        self.risers = [(1, ())]

    def step_back(self):
        """Undo the last change that stands."""
        if len(self.risers) == 1:
            raise NoNumber("there is no change that stands")
        self.risers.pop()

    def say(self, line):
        """Do what a line tells, or answer what it asks."""
        if not isinstance(line, str):
            raise NoLine("this is no text")
        told = answer(self.risers[-1], line)
        if told is not None:
            return told
        if line == "back":
            self.step_back()
        else:
            self.risers.append(changed(self.risers[-1], line))
        return show(self.risers[-1])
