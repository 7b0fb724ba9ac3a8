"""The logs of benches."""

from onlygiven.benches import Bench
from onlygiven.benchevents import is_event
from onlygiven.kinds import is_book, is_row
from onlygiven.usable import check_usable


def is_beginning(thing):
    """Whether any value is the first element of a log, by form."""
    return is_row(thing, 2) and thing[0] == "bench" and is_book(thing[1])


def is_log(thing):
    """Whether any value is a log."""
    if not isinstance(thing, tuple) or not thing or not is_beginning(thing[0]):
        return False
    return all([is_event(event) for event in thing[1:]])


def replayed(log):
    """A new bench after the events of the log; InvalidEvent for the first one that is refused."""
    check_usable(is_log(log), "log")
    bench = Bench(log[0][1])
    for event in log[1:]:
        bench.follow(event)
    return bench
