"""All refusals of the program, each below MillError and none below another."""


class MillError(ValueError):
    """Any refusal."""


class NoNumber(MillError):
    """What was handed in is no whole number within its bounds."""


class NoProgram(MillError):
    """What was handed in is no program."""


class NoInputs(MillError):
    """What was handed in is no list of inputs."""


class NoFact(MillError):
    """No fact has this name."""


class NoPass(MillError):
    """No pass has this name."""


class NoPlug(MillError):
    """What was handed in is no plugged pass."""


class Taken(MillError):
    """A pass has this name already."""


class NoLine(MillError):
    """A text is no line; `at` is the place, from 0 on, of what does not fit."""

    def __init__(self, at=0):
        super().__init__(f"no line, from sign {at} on")
        self.at = at


class NoPasses(MillError):
    """What was handed in are no passes."""


class NoBack(MillError):
    """There is no pass to be taken back."""


class NoText(MillError):
    """What was handed in is the writing of nothing."""
