"""All refusals: each class stands right under WishError."""


class WishError(ValueError):
    """Any refusal."""


class BadName(WishError):
    """It is no name, no name of the board, or no pairs of names."""


class BadBoard(WishError):
    """It is no board."""


class BadLetter(WishError):
    """It is no letter of these names, or no tuple of some of them."""


class BadTurn(WishError):
    """It is no turn of the board."""


class BadLoop(WishError):
    """It is no loop of the board."""


class BadWish(WishError):
    """It is no wish, or has signs that are none of the board's."""


class BadRow(WishError):
    """It is no row of the board."""


class BadTask(WishError):
    """It is no task."""


class BadMachine(WishError):
    """It is no machine of the board."""


class BadPlan(WishError):
    """It is no plan of the board."""


class BadPosition(WishError):
    """It is no position of the task."""


class BadRun(WishError):
    """It is no run, or no cycle, of letters."""


class NoMachine(WishError):
    """There is no such machine."""


class NoPlan(WishError):
    """There is no such plan."""


class BadArena(WishError):
    """It is no arena."""


class BadNumber(WishError):
    """It is none of the whole numbers that are wanted."""


class TooGreat(WishError):
    """It is one of its kind but for its size."""


class BadText(WishError):
    """It is no text of what was to be read, from this place on: line from 1, at from 0."""

    def __init__(self, line, at):
        WishError.__init__(self, f"line {line}, at {at}")
        self.line = line
        self.at = at
