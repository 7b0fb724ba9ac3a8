"""A desk: a bench that is led by strings."""

from onlygiven.benches import Bench
from onlygiven.deskanswers import answer_of
from onlygiven.deskrows import row_read


class Desk:
    """A bench that is told rows, and answers."""

    def __init__(self, book):
        self._bench = Bench(book)
        # How many calls there were, and how many of them raised an error.
        self._begun = 0
        self._failed = 0

    def reply(self, row):
        word, told = row_read(row)
        if word == "bench":
            self._bench = Bench(told)
            return "ok"
        return answer_of(self._bench, word, told)

    def say(self, row):
        """The answer to any value as a row."""
        self._begun = self._begun + 1
        # A call fails as long as it has not come to its end.
        self._failed = self._failed + 1
        answer = self.reply(row)
        self._failed = self._failed - 1
        return answer

    def tally(self):
        """How many calls of say there were, and how many of them raised an error."""
        return (self._begun, self._failed)
