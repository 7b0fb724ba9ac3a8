"""The errors of the package. Each keeps the fields that it was made with, the very objects."""

LONGEST_SHOWN = 200


def shown(field):
    """The field for a message. Python refuses to write out numbers of thousands of digits, so such are left out."""
    if isinstance(field, int) and field.bit_length() <= LONGEST_SHOWN:
        return str(field)
    if isinstance(field, str) and len(field) <= LONGEST_SHOWN:
        return repr(field)
    return "..."


class GivenError(ValueError):
    """The base class of all errors of the package."""


class PaperError(GivenError):
    """A paper states something that is not so."""


class BookError(GivenError):
    """A question about a book cannot be answered as it was asked."""


class BenchError(GivenError):
    """A bench cannot do what it was told."""


class TextError(GivenError):
    """A text cannot be read."""


class InvalidPaper(PaperError):
    """A checker does not accept its paper; word names the fault, and at is where it stands."""

    def __init__(self, word, at):
        PaperError.__init__(self, f"the paper is not accepted: {shown(word)} at {shown(at)}")
        self.word = word
        self.at = at


class NotUsable(BookError):
    """An argument is not of the kind that is asked for; word names its parameter."""

    def __init__(self, word, at):
        BookError.__init__(self, f"the argument is not usable: {shown(word)} at {shown(at)}")
        self.word = word
        self.at = at


class NotMade(BookError):
    """The wish has no maker."""

    def __init__(self, wish):
        BookError.__init__(self, f"the wish has no maker: {shown(wish)}")
        self.wish = wish


class NotOne(BookError):
    """The gap at the place has not just one maker."""

    def __init__(self, place, number):
        BookError.__init__(self, f"the gap at {shown(place)} has not just one maker: {shown(number)}")
        self.place = place
        self.number = number


class InvalidEvent(BenchError):
    """A bench refuses the event."""

    def __init__(self, event, reason):
        BenchError.__init__(self, f"the event is refused: {shown(reason)}")
        self.event = event
        self.reason = reason


class NothingToUndo(BenchError):
    """There is no step that could be taken back."""

    def __init__(self, steps):
        BenchError.__init__(self, f"nothing to take back: {shown(steps)}")
        self.steps = steps


class Broken(BenchError):
    """One of several events was refused, after done of them had been applied."""

    def __init__(self, done):
        BenchError.__init__(self, f"refused after as many events: {shown(done)}")
        self.done = done


class InvalidText(TextError):
    """The text cannot go on from the column of the line."""

    def __init__(self, line, column):
        TextError.__init__(self, f"the text cannot be read: line {shown(line)}, column {shown(column)}")
        self.line = line
        self.column = column


class InvalidRow(TextError):
    """The row is none that a desk understands."""

    def __init__(self, row):
        TextError.__init__(self, f"the row is not possible: {shown(row)}")
        self.row = row
