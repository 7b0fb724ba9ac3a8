"""Plain forms of terms, and of makers in which heads stand for something else.

A form is a maker as a triple (opened, head, makers): opened is how many variables there are opened. So it can be told
how many arguments a form takes without a look at kinds, which may be others than those it was made for.
"""

from onlygiven.goals import maker_from
from onlygiven.kinds import names_of
from onlygiven.kindsplits import parts_in
from onlygiven.makerwalks import hands_around


class Given:
    """A name or a variable of what is written, as a value."""

    def __init__(self, head, kind):
        self.head = head
        self.kind = kind


class Made:
    """What a form makes, as a value; names and hand have the values of its names and of the variables at hand."""

    def __init__(self, body, names, hand):
        self.body = body
        self.names = names
        self.hand = hand


class Meant:
    """What a call or a fun means, as a value; names has the values of the names that mean something around it."""

    def __init__(self, term, names):
        self.term = term
        self.names = names


def value_of_term(term, names):
    return names[term] if isinstance(term, str) else Meant(term, names)


def form_of(spots):
    """The form of the maker of these spots."""
    forms = []
    for spot, around in list(zip(spots, hands_around(spots)))[::-1]:
        goal, (head, makers) = spot
        # The forms of the makers of this one stand at the end, in reverse.
        start = len(forms) - len(makers)
        behind = forms[start:]
        del forms[start:]
        forms.append((len(goal[1]) - around, head, behind[::-1]))
    return forms[0]


def variables_for(kind, depth):
    """The variables that are opened for the parts of the kind where so many are at hand."""
    return [Given(depth + k, part) for k, part in enumerate(parts_in(kind))]


def step_of_made(value, given):
    """The value of the head of a form, and what it is given."""
    opened, head, forms = value.body
    names = value.names
    hand = value.hand + given[:opened]
    # A form of another kind than the wanted one hands on to its head what it does not take itself.
    behind = [Made(form, names, hand) for form in forms] + given[opened:]
    return (names[head] if isinstance(head, str) else hand[head], behind)


def step_of_meant(value, given):
    """The value of the function of a call, or of the term of a fun, and what it is given."""
    word, own, inner = value.term
    if word == "call":
        return (value_of_term(own, value.names), [value_of_term(term, value.names) for term in inner] + given)
    names = dict(list(value.names.items()) + list(zip(names_of(own), given)))
    return (value_of_term(inner, names), given[len(own):])


def head_and_given(value, given):
    """The name or the variable that comes to stand ahead where a value is given all that it takes, and what it gets."""
    while not isinstance(value, Given):
        value, given = step_of_made(value, given) if isinstance(value, Made) else step_of_meant(value, given)
    return value, given


def plain_maker(value, kind, given=()):
    """The maker of the kind that writes out what the value makes of what it is given."""
    waiting = [(value, list(given), kind, 0)]
    taken = []
    while waiting:
        value, given, kind, depth = waiting.pop()
        variables = variables_for(kind, depth)
        depth = depth + len(variables)
        first, behind = head_and_given(value, given + variables)
        taken.append((first.head, len(behind)))
        inner = [(argument, [], part, depth) for argument, part in zip(behind, parts_in(first.kind))]
        waiting.extend(inner[::-1])
    return maker_from(taken)


def values_of_names(book):
    """For each name of the book the value that stands for itself."""
    return {name: Given(name, kind) for name, kind in book}
