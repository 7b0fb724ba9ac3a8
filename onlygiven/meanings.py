"""Values of terms and makers where the names have values."""

from onlygiven.kinds import is_book, is_kind, is_name, is_row, names_of
from onlygiven.makerwalks import spots_of, usable_spots
from onlygiven.normals import form_of
from onlygiven.plainforms import plain_term
from onlygiven.termchecker import usable_kind
from onlygiven.usable import check_usable


def are_values(book, thing):
    """Whether any value has a value for each name of the book."""
    if not isinstance(thing, tuple) or not all([is_row(pair, 2) and is_name(pair[0]) for pair in thing]):
        return False
    return sorted(names_of(thing)) == names_of(book)


def steps_below(form):
    """The head of a form and the forms below it up to those that open variables; each step behind those below it."""
    waiting = [(0, form[1], form[2])]
    steps = []
    while waiting:
        step = waiting.pop()
        steps.append(step)
        if step[0] == 0:
            waiting.extend(step[2])
    return steps[::-1]


def value_below(form, names, hand):
    """The value of what stands below the variables that a form opens; hand has their values, too."""
    values = []
    for step in steps_below(form):
        opened, head, forms = step
        if opened > 0:
            values.append(function_of(step, names, hand))
            continue
        # The values of the forms of this one stand at the end.
        start = len(values) - len(forms)
        given = values[start:]
        del values[start:]
        value = names[head] if isinstance(head, str) else hand[head]
        values.append(value(*given) if given else value)
    return values[0]


def function_of(form, names, hand):
    """The function of the values of the variables that a form opens."""
    def value_for(*given):
        return value_below(form, names, hand + list(given))

    return value_for


def value_of_form(form, names):
    return function_of(form, names, []) if form[0] > 0 else value_below(form, names, [])


class Meaning:
    """A value for each name of a book."""

    def __init__(self, book, values):
        check_usable(is_book(book), "book")
        check_usable(are_values(book, values), "values")
        self._book = book
        self._told = dict(values)

    def __call__(self, term):
        """The value of a term, which is that of its plain form."""
        kind = usable_kind(self._book, term, "term")
        spots = spots_of(self._book, kind, plain_term(self._book, term, kind))
        return value_of_form(form_of(spots), self._told)

    def of_maker(self, wish, maker):
        """The value of a maker of the wish."""
        check_usable(is_kind(wish), "wish")
        return value_of_form(form_of(usable_spots(self._book, wish, maker, "maker")), self._told)
