"""The errors by which this program refuses what is handed in."""


class RiseError(ValueError):
    """Above every refusal of this program."""


class NoRiser(RiseError):
    """What is due to be a riser is none, or two are of unlike many switches."""


class NoStand(RiseError):
    """What is due to be a stand, or stands apart, is not."""


class NoSwitch(RiseError):
    """What is due to be a switch, or an order of switches, is none."""


class NoNumber(RiseError):
    """What is due to be a whole number as told is none."""


class NoRise(RiseError):
    """A table falls somewhere."""


class NoChains(RiseError):
    """What is due to be chains is none."""


class NoAnswers(RiseError):
    """What is due to be answers is none, or they clash."""


class NoWeights(RiseError):
    """What is due to be weights is none."""


class NoForm(RiseError):
    """What is due to be a form is none."""


class TooMany(RiseError):
    """There are more switches than can be dealt with here."""


class NoText(RiseError):
    """What is due to be a text as told is none."""


class NoLine(RiseError):
    """What is told to a desk is no line of its."""
