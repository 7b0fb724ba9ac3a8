"""How far a line can be read.

The functions that read are told the number of the line, its text and an index, and return the index behind what
they read from there. They go on only as long as some possible line begins so; where this ends they raise InvalidText,
whose column is therefore the length of the longest such beginning.

Nothing here is kept in objects that change, since operators and properties, which must not change anything, ask for
the forms of values, too.
"""

from onlygiven.errors import InvalidText
from onlygiven.usable import check_usable

LETTERS = "abcdefghijklmnopqrstuvwxyz"
DIGITS = "0123456789"
LONGEST_NAME = 8
LONGEST_NUMBER = 60
LAST_NAME = "zzzzzzzz"


def check_text(text):
    """The parameter text of every reader."""
    check_usable(isinstance(text, str), "text")


def common_length(text, word):
    """How many characters the text and the word have in common at their beginnings."""
    length = 0
    while length < len(word) and text[length:length + 1] == word[length]:
        length = length + 1
    return length


def word_end(line, text, at, word):
    """Reads exactly this word."""
    end = at + len(word)
    if text[at:end] != word:
        raise InvalidText(line, at + common_length(text[at:end], word))
    return end


def run_end(text, at, signs, most):
    """The index behind the signs of this sort that stand from the index on, at most so many."""
    window = text[at:at + most]
    return at + len(window) - len(window.lstrip(signs))


def name_end(line, text, at, above):
    """Reads a name that is greater than above, which is a name, or the empty string if every name will do."""
    end = run_end(text, at, LETTERS, LONGEST_NAME)
    if text[at:end] > above:
        return end
    # What was read may still begin a greater name: the greatest of those that begin so tells it.
    while end > at and text[at:end].ljust(LONGEST_NAME, "z") <= above:
        end = end - 1
    raise InvalidText(line, end)


def number_end(line, text, at):
    """Reads a number without a leading zero."""
    most = 1 if text[at:at + 1] == "0" else LONGEST_NUMBER
    end = run_end(text, at, DIGITS, most)
    if end == at:
        raise InvalidText(line, at)
    return end


def kind_end(line, text, at):
    """Reads a kind, as far as it goes."""
    depth = 0
    while True:
        start = at
        while text[start:start + 1] == "(":
            start = start + 1
        depth = depth + start - at
        # A name right behind a parenthesis has no arrow ahead of it, and an atom does not stand in parentheses.
        may_close = depth > 0 and start == at
        at = name_end(line, text, start, "")
        if may_close and text[at:at + 1] == ")":
            depth = depth - 1
            at = at + 1
        elif depth == 0 and text[at:at + 1] != " ":
            return at
        at = word_end(line, text, at, " -> ")


def entry_end(line, text, at, above):
    """Reads the line of an entry whose name is greater than above."""
    at = name_end(line, text, at, above)
    at = word_end(line, text, at, ": ")
    return kind_end(line, text, at)


def check_end(line, text, at):
    """Nothing more may stand there."""
    if at < len(text):
        raise InvalidText(line, at)


def entry_written(text):
    """The entry whose line the text is: no kind has a colon."""
    return tuple(text.split(": "))
