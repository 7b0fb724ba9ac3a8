"""The rows of a desk, read."""

from onlygiven.benchreadings import read_event, read_log
from onlygiven.bookreadings import kind_read
from onlygiven.errors import InvalidRow, InvalidText
from onlygiven.scanning import check_end, name_end, number_end

# What stands between several things.
BETWEEN = " / "

SINGLE_WORDS = ("undo", "events", "log", "names", "lets", "bars", "table", "verdicts", "alarms", "cures")


def name_told(text):
    check_end(0, text, name_end(0, text, 0, ""))
    return text


def wish_told(text):
    return kind_read(text)


def number_told(text):
    check_end(0, text, number_end(0, text, 0))
    return int(text)


def event_told(text):
    return read_event(text)


def events_told(text):
    return tuple([read_event(line) for line in text.split(BETWEEN)])


# How that is read which follows a word.
READERS = {
    "of": name_told,
    "verdict": wish_told,
    "changes": number_told,
    "against": event_told,
    "all": events_told,
    "tried": events_told,
}


def words_told(text):
    """The word of a row that is a string, and what was told with it; InvalidText if it is none that is possible.

    An event has the word "event" here. With a single word nothing is told.
    """
    word, _, rest = text.partition(" ")
    if text in SINGLE_WORDS:
        return (text, None)
    if word == "bench":
        return (word, read_log([text])[0][1])
    if word in READERS:
        reader = READERS[word]
        return (word, reader(rest))
    return ("event", read_event(text))


def row_read(row):
    """The word of any value as a row, and what was told with it; InvalidRow if it is none that is possible."""
    if not isinstance(row, str):
        raise InvalidRow(row)
    try:
        return words_told(row)
    except InvalidText:
        raise InvalidRow(row) from None
