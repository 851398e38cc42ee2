"""The refusals: one class each, all under LossError and none under another."""


class LossError(ValueError):
    """Any refusal."""


class NoSaying(LossError):
    """A saying was asked for, and this is none."""


class NoBook(LossError):
    """A book was asked for, and this is none."""


class NoPlay(LossError):
    """A play was asked for, and this is none."""


class Lost(LossError):
    """The friend can't keep its musts, so no means are told."""


class NoMachine(LossError):
    """A machine was asked for, and this is none."""


class NoTurns(LossError):
    """A number of turns was asked for, and this is none."""


class TooBig(LossError):
    """Two books put side by side are no book any more."""


class NoText(LossError):
    """A written text was asked for, and this is none."""
