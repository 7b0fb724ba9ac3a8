"""The readers of events and logs."""

from onlygiven.benchevents import EVENT_FORMS
from onlygiven.errors import InvalidText
from onlygiven.scanning import LAST_NAME, check_end, check_text, common_length, word_end
from onlygiven.scanning import entry_end, entry_written, kind_end, name_end
from onlygiven.usable import check_usable


def event_word(line, text):
    """The word of an event with which the text begins, a space behind it."""
    for word in EVENT_FORMS:
        if text.startswith(word + " "):
            return word
    raise InvalidText(line, max([common_length(text, word + " ") for word in EVENT_FORMS]))


def event_end(line, text, word):
    """Reads what follows the word of an event."""
    at = len(word) + 1
    form = EVENT_FORMS[word]
    if form == "entry":
        return entry_end(line, text, at, "")
    if form == "name":
        return name_end(line, text, at, "")
    return kind_end(line, text, at)


def event_at(line, text):
    """The event whose line the text is."""
    word = event_word(line, text)
    check_end(line, text, event_end(line, text, word))
    return tuple([word] + text[len(word) + 1:].split(": "))


def entries_from(text, at):
    """The book whose entries stand in the text from the index on, with ", " between."""
    entries = []
    above = ""
    while True:
        end = entry_end(0, text, at, above)
        entry = entry_written(text[at:end])
        entries.append(entry)
        above = entry[0]
        if above == LAST_NAME:
            # No name is greater, so no comma can follow.
            check_end(0, text, end)
        if end == len(text):
            return tuple(entries)
        at = word_end(0, text, end, ", ")


def bench_at_first(text):
    """The first element of a log, whose line the text is."""
    at = word_end(0, text, 0, "bench ")
    if text[at:at + 1] != "-":
        return ("bench", entries_from(text, at))
    check_end(0, text, at + 1)
    return ("bench", ())


def read_event(text):
    """The event whose line the text is."""
    check_text(text)
    return event_at(0, text)


def read_log(lines):
    """The log whose lines these are."""
    check_usable(isinstance(lines, list) and all([isinstance(text, str) for text in lines]), "lines")
    if not lines:
        raise InvalidText(0, 0)
    log = [bench_at_first(lines[0])]
    for k, text in enumerate(lines[1:]):
        log.append(event_at(k + 1, text))
    return tuple(log)
