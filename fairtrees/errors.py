"""The refusals of the program, one class for each kind."""


class TreeError(ValueError):
    """Whatever this program refuses."""


class NoMachine(TreeError):
    """The thing is no machine."""


class NoWishes(TreeError):
    """The thing is no tuple of wishes."""


class NoProgram(TreeError):
    """The thing is no program."""


class NoSaying(TreeError):
    """The thing is no saying; row is the first row that cannot stand there, or -1 where there are no right rows."""

    def __init__(self, why="no saying", row=-1):
        TreeError.__init__(self, why)
        self.row = row


class NoText(TreeError):
    """The thing is the text of nothing."""


class NoRun(TreeError):
    """The things are no path and ring."""


class NoWay(TreeError):
    """A way that says nothing of how to reckon was asked to reckon."""


class NoSheet(TreeError):
    """The thing is no sheet."""


class NoPaper(TreeError):
    """The thing is not the paper that is asked for."""


class NoDeed(TreeError):
    """The thing is no deed of this machine."""


class Twice(TreeError):
    """What is to be put in is there already."""


class Missing(TreeError):
    """What is to be taken out is not there."""


class Nothing(TreeError):
    """There is nothing to undo."""


class Full(TreeError):
    """The book has no room for more."""


class Broken(TreeError):
    """A deed of a batch was refused; number is its place in the batch."""

    def __init__(self, why="a deed was refused", number=-1):
        TreeError.__init__(self, why)
        self.number = number


class TooGreat(TreeError):
    """What is asked for is greater than it may be."""


class TooMany(TreeError):
    """There are more answers than may be told."""


class AreAlike(TreeError):
    """The two standings are alike, so nothing parts them."""
