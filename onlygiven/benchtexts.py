"""The lines of events and logs."""

from onlygiven.benchevents import is_event
from onlygiven.benchlogs import is_log
from onlygiven.booktexts import entry_line
from onlygiven.usable import check_usable


def line_of_event(event):
    """The line of what is known to be an event."""
    # Behind the word stands an entry, or one thing alone.
    return event[0] + " " + ": ".join(event[1:])


def line_of_entries(book):
    """The entries of a book in one line."""
    return ", ".join([entry_line(entry) for entry in book]) if book else "-"


def line_of_beginning(book):
    """The line of the first element of a log."""
    return "bench " + line_of_entries(book)


def event_line(event):
    """The line of an event by form."""
    check_usable(is_event(event), "event")
    return line_of_event(event)


def log_lines(log):
    """The list of the lines of a log."""
    check_usable(is_log(log), "log")
    return [line_of_beginning(log[0][1])] + [line_of_event(event) for event in log[1:]]
