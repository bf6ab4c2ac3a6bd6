"""The refusals. Their words hold no numbers: what a caller needs to know stands in the fields."""


class HallError(ValueError):
    """Any refusal."""


class BadHall(HallError):
    """A row of a hall's text is at fault: place is its number, word the fault."""

    def __init__(self, place, word):
        HallError.__init__(self, f"a row of the hall is at fault: {word}")
        self.place = place
        self.word = word


class NoLetter(HallError):
    """The hall lacks a letter: place is the letter's place in the row."""

    def __init__(self, place):
        HallError.__init__(self, "the hall lacks a letter of the row")
        self.place = place


class NoFeature(HallError):
    """The hall lacks a feature."""


class NoRow(HallError):
    """A row of shapes can't be read back to letters."""


class BadDeed(HallError):
    """A deed of a desk's text is at fault: place is its row's number, word the fault."""

    def __init__(self, place, word):
        HallError.__init__(self, f"a deed is at fault: {word}")
        self.place = place
        self.word = word
