"""The forms of values. Each function accepts any value, and returns True or False."""

from onlygiven.errors import InvalidText
from onlygiven.scanning import LETTERS, LONGEST_NAME, kind_end


def is_integer(thing):
    return isinstance(thing, int) and not isinstance(thing, bool)


def is_number(thing):
    return is_integer(thing) and thing >= 0


def is_name(thing):
    if not isinstance(thing, str):
        return False
    return 0 < len(thing) <= LONGEST_NAME and thing.strip(LETTERS) == ""


def is_kind(thing):
    if not isinstance(thing, str):
        return False
    try:
        return kind_end(0, thing, 0) == len(thing)
    except InvalidText:
        return False


def is_row(thing, length):
    """Whether it is a tuple of so many elements."""
    return isinstance(thing, tuple) and len(thing) == length


def is_ascending(row):
    """Whether the strings of the row ascend, none of them standing twice."""
    return all([low < high for low, high in zip(row, row[1:])])


def is_entry(thing):
    return is_row(thing, 2) and is_name(thing[0]) and is_kind(thing[1])


def are_entries(thing):
    """Whether it is a tuple of entries, in any order."""
    return isinstance(thing, tuple) and all([is_entry(entry) for entry in thing])


def names_of(entries):
    return [entry[0] for entry in entries]


def is_book(thing):
    return are_entries(thing) and is_ascending(names_of(thing))


def has_maker_form(thing):
    """Whether it is a pair of a head and a tuple, whatever stands in this."""
    return is_row(thing, 2) and (is_name(thing[0]) or is_number(thing[0])) and isinstance(thing[1], tuple)


def is_maker(thing):
    # A list of what is still to be looked at, instead of calls in calls: makers may be of any depth.
    waiting = [thing]
    while waiting:
        maker = waiting.pop()
        if not has_maker_form(maker):
            return False
        waiting.extend(maker[1])
    return True


def has_call_form(thing):
    """Whether it is a call, whatever stands where its terms stand."""
    return is_row(thing, 3) and thing[0] == "call" and isinstance(thing[2], tuple) and len(thing[2]) > 0


def has_fun_form(thing):
    """Whether it is a fun, whatever stands where its term stands."""
    if not is_row(thing, 3) or thing[0] != "fun" or not are_entries(thing[1]):
        return False
    names = names_of(thing[1])
    return len(names) > 0 and len(set(names)) == len(names)


def has_term_form(thing):
    """Whether it is a name, a call or a fun, whatever stands where terms stand in it."""
    return is_name(thing) or has_call_form(thing) or has_fun_form(thing)


def inner_terms(term):
    """The list of what stands where terms stand in a term, which is a term as far as has_term_form tells."""
    if has_call_form(term):
        return [term[1]] + list(term[2])
    return [term[2]] if has_fun_form(term) else []


def is_term(thing):
    waiting = [thing]
    while waiting:
        term = waiting.pop()
        if not has_term_form(term):
            return False
        waiting.extend(inner_terms(term))
    return True


def is_kind_set(thing):
    """Whether it is an ascending tuple of kinds."""
    return isinstance(thing, tuple) and all([is_kind(kind) for kind in thing]) and is_ascending(thing)


def is_stand(thing):
    return is_row(thing, 2) and is_kind_set(thing[0]) and is_name(thing[1])
