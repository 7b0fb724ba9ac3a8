"""What a desk answers, by its bench."""

from onlygiven.benchtexts import line_of_entries, line_of_event
from onlygiven.deskrows import BETWEEN
from onlygiven.makertexts import maker_text


def several(things):
    """The answer of several strings."""
    return BETWEEN.join(things) if things else "-"


def verdict_rows(verdicts):
    return several([f"{wish}: {verdict}" for wish, verdict in verdicts])


def row_of_alarm(wish, maker):
    return wish if maker is None else f"{wish} by {maker_text(maker)}"


def undone(bench):
    return line_of_event(bench.undo())


def number_of_events(bench):
    return str(len(bench.log()) - 1)


def event_lines(bench):
    return several([line_of_event(event) for event in bench.log()[1:]])


def names_line(bench):
    return line_of_entries(bench.book_now)


def let_wishes(bench):
    return several(bench.let_now)


def barred_wishes(bench):
    return several(bench.barred_now)


def table_lines(bench):
    return several(bench.table())


def all_verdicts(bench):
    return verdict_rows(bench.verdicts_now())


def all_alarms(bench):
    return several([row_of_alarm(wish, maker) for wish, maker in bench.alarms()])


def all_cures(bench):
    return " ".join(["(" + " ".join(names) + ")" for names in bench.cures()]) or "-"


def kind_of_name(bench, name):
    return bench[name]


def one_verdict(bench, wish):
    return bench.verdict_now(wish)


def all_changes(bench, k):
    return several([f"{wish}: {before} to {after}" for wish, before, after in bench.changes(k)])


def reason_against_event(bench, event):
    return bench.barred_by(event) or "-"


def events_done(bench, events):
    return str(bench.do_all(events))


def verdicts_behind(bench, events):
    return verdict_rows(bench.tried(events)[1])


def event_done(bench, event):
    bench.go(event)
    return "ok"


# Of single words.
SINGLE_ANSWERS = {
    "undo": undone,
    "events": number_of_events,
    "log": event_lines,
    "names": names_line,
    "lets": let_wishes,
    "bars": barred_wishes,
    "table": table_lines,
    "verdicts": all_verdicts,
    "alarms": all_alarms,
    "cures": all_cures,
}

# Of what is told with a word.
ANSWERS = {
    "of": kind_of_name,
    "verdict": one_verdict,
    "changes": all_changes,
    "against": reason_against_event,
    "all": events_done,
    "tried": verdicts_behind,
    "event": event_done,
}


def answer_of(bench, word, told):
    """The answer to what was told with a word, None if nothing is told with it."""
    if word in SINGLE_ANSWERS:
        action = SINGLE_ANSWERS[word]
        return action(bench)
    action = ANSWERS[word]
    return action(bench, told)
