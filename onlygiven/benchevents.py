"""The events of a bench, by their form."""

from onlygiven.kinds import is_entry, is_kind, is_name

# What follows the word of an event: a name and a kind, as in an entry; a name; a wish.
EVENT_FORMS = {
    "name": "entry",
    "drop": "name",
    "kind": "entry",
    "let": "wish",
    "bar": "wish",
    "free": "wish",
}


def is_event(thing):
    """Whether any value is an event by form."""
    # No list is looked up in a dict, so the word is first asked whether it is a string.
    if not isinstance(thing, tuple) or len(thing) < 2 or not isinstance(thing[0], str):
        return False
    form = EVENT_FORMS.get(thing[0])
    if form == "entry":
        return is_entry(thing[1:])
    if form == "name":
        return len(thing) == 2 and is_name(thing[1])
    return form == "wish" and len(thing) == 2 and is_kind(thing[1])
