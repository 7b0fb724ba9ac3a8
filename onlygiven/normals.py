"""Plain forms of makers in which heads stand for something else.

A form is a maker as a triple (opened, head, makers): opened is how many variables there are opened. So it can be told
how many arguments a form takes without a look at kinds, which may be others than those it was made for.
"""

from onlygiven.goals import maker_from
from onlygiven.kindsplits import parts_in


class Given:
    """A name or a variable of what is written, as a value."""

    def __init__(self, head, kind):
        self.head = head
        self.kind = kind


class Made:
    """What a form makes, as a value; names and hand have the values of its names and of the variables at hand."""

    def __init__(self, body, names, hand):
        self.body = body
        self.names = names
        self.hand = hand


def form_of(spots):
    """The form of the maker of these spots."""
    hands = {goal[0]: len(goal[1]) for goal, _ in spots}
    forms = []
    for (place, hand, _), (head, makers) in spots[::-1]:
        # The forms of the makers of this one stand at the end, in reverse.
        start = len(forms) - len(makers)
        behind = forms[start:]
        del forms[start:]
        opened = len(hand) - (hands[place[:-1]] if place else 0)
        forms.append((opened, head, behind[::-1]))
    return forms[0]


def variables_for(kind, depth):
    """The variables that are opened for the parts of the kind where so many are at hand."""
    return [Given(depth + k, part) for k, part in enumerate(parts_in(kind))]


def plain_maker(value, kind):
    """The maker of the kind that writes out what the value makes."""
    waiting = [(value, kind, 0)]
    taken = []
    while waiting:
        value, kind, depth = waiting.pop()
        arguments = variables_for(kind, depth)
        depth = depth + len(arguments)
        while isinstance(value, Made):
            opened, head, forms = value.body
            names = value.names
            hand = value.hand + arguments[:opened]
            # A form of another kind than the wanted one hands on to its head what it does not take itself.
            arguments = [Made(form, names, hand) for form in forms] + arguments[opened:]
            value = names[head] if isinstance(head, str) else hand[head]
        taken.append((value.head, len(arguments)))
        behind = [(argument, part, depth) for argument, part in zip(arguments, parts_in(value.kind))]
        waiting.extend(behind[::-1])
    return maker_from(taken)


def values_of_names(book):
    """For each name of the book the value that stands for itself."""
    return {name: Given(name, kind) for name, kind in book}
