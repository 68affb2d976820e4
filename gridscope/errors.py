"""What the program refuses, one class for each cause."""


class GridError(ValueError):
    """A value that can't be taken."""


class BadSize(GridError):
    """A size outside of what a size may be."""


class BadMany(GridError):
    """A count outside of what it may be."""


class BadText(GridError):
    """A text that is too long."""


class BadLook(GridError):
    """A look that there isn't."""


class BadAxis(GridError):
    """An axis other than row or column."""


class BadHold(GridError):
    """A hold that can't be."""


class BadScreen(GridError):
    """A screen that can't be."""


class BadScroll(GridError):
    """A scroll that can't be."""


class BadWay(GridError):
    """A way that the caret can't go."""


class BadDeed(GridError):
    """A deed that can't stand where it stands."""


class Full(GridError):
    """One more than there may be."""


class NotMerged(GridError):
    """A cell that is in no merged box."""


class BadStep(GridError):
    """One of several deeds is refused: its place among them and the name of its refusal."""

    def __init__(self, where, word):
        super().__init__(f"deed {where} is refused: {word}")
        self.where = where
        self.word = word


class BadPage(GridError):
    """A page that can't be read, with the number of the first wrong row."""

    def __init__(self, row):
        super().__init__(f"row {row} of the page is wrong")
        self.row = row


class Boxed(GridError):
    """A merged box stands in the way."""

    def __init__(self, taken):
        super().__init__(f"the box {taken} stands in the way")
        self.taken = taken


class Inside(Boxed):
    """A cell of a merged box other than its first one."""


class Overlap(Boxed):
    """A box that has a cell in common with a merged one."""


class Missing(LookupError):
    """Something that isn't there."""


class NoCell(Missing):
    """A cell outside of the sheet."""


class Beyond(IndexError):
    """A number beyond what is there."""


class NoIndex(Beyond):
    """A number that no thing has."""


class NoPoint(Beyond):
    """A point in no thing."""


class NoPlace(Beyond):
    """A place outside of the screen."""


class NothingLeft(Beyond):
    """Nothing to take back or to do again."""
