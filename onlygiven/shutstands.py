"""Stands at which nothing can be made, as papers have them."""

from onlygiven.errors import InvalidPaper
from onlygiven.kinds import is_stand
from onlygiven.stands import heads_of_stand, stands_behind


def check_stands(stands):
    """The elements are stands, and ascend."""
    for k, stand in enumerate(stands):
        if not is_stand(stand) or (k > 0 and stand <= stands[k - 1]):
            raise InvalidPaper("stand", k)


def leads_into(known, stand, head):
    """Whether some part of the head leads to one of the stands that are known."""
    return any([below in known for below in stands_behind(stand, head)])


def check_shut(book, stands):
    """Each head of each of the stands has a part that leads to one of them."""
    known = {stand: True for stand in stands}
    for k, stand in enumerate(stands):
        if not all([leads_into(known, stand, head) for head in heads_of_stand(book, stand)]):
            raise InvalidPaper("open", k)
