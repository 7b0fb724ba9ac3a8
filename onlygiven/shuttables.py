"""Tables that show that a wish has no maker."""

from onlygiven.outlooks import outlook_for


def shut_table(book, wish):
    """A shut table of the wish, None if it has a maker."""
    outlook = outlook_for(book, wish)
    return None if outlook.has_maker() else outlook.shut_stands()
