"""The readers of kinds, entries and books."""

from onlygiven.kinds import is_number
from onlygiven.scanning import check_end, check_text, entry_end, entry_written, kind_end
from onlygiven.usable import check_usable


def check_line(text, line):
    """The two parameters of the readers of one line."""
    check_text(text)
    check_usable(is_number(line), "line")


def kind_read(text, *, line=0):
    """The kind that the text is."""
    check_line(text, line)
    check_end(line, text, kind_end(line, text, 0))
    return text


def entry_read(text, *, line=0):
    """The entry whose line the text is."""
    check_line(text, line)
    return entry_above(text, line, "")


def entry_above(text, line, above):
    """The entry whose line the text is, its name being greater than above."""
    check_end(line, text, entry_end(line, text, 0, above))
    return entry_written(text)


def book_read(text):
    """The book that the text writes."""
    check_text(text)
    if text == "":
        return ()
    entries = []
    above = ""
    for line, row in enumerate(text.split("\n")):
        entry = entry_above(row, line, above)
        entries.append(entry)
        above = entry[0]
    return tuple(entries)
