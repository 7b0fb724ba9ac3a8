"""What texts are possible, told in another way than in the package.

A text is recognized by a regular expression that is reduced from the inside, and a beginning of a text is possible
if it is recognized with one of the tails that are tried behind it. The column follows from this by its definition.
"""

import ast
import functools
import re

NAME = "[a-z]{1,8}"
NUMBER = "(?:0|[1-9][0-9]{0,59})"
MARK = "\0"

PART = f"(?:{NAME}|{MARK})"
INNER_KIND = re.compile(rf"\((?:{PART} -> )+{NAME}\)")
WHOLE_KIND = re.compile(f"(?:{PART} -> )*{NAME}")

ARGUMENT = f"(?:{NAME}|{NUMBER}|{MARK})"
INNER_MAKER = re.compile(rf"(?:{NAME}|{NUMBER})\({ARGUMENT}(?:, {ARGUMENT})*\)")
WHOLE_MAKER = re.compile(ARGUMENT)


def reduced(pattern, text):
    before = None
    while before != text:
        before = text
        text = pattern.sub(MARK, text)
    return text


def is_kind_text(text):
    return WHOLE_KIND.fullmatch(reduced(INNER_KIND, text)) is not None


def is_maker_text(text):
    return WHOLE_MAKER.fullmatch(reduced(INNER_MAKER, text)) is not None


def entry_in(text, above=""):
    """The entry whose line the text is, or None."""
    name, colon, kind = text.partition(": ")
    if colon and re.fullmatch(NAME, name) and name > above and is_kind_text(kind):
        return (name, kind)
    return None


def event_in(text):
    """The event whose line the text is, or None."""
    word, _, rest = text.partition(" ")
    if word in ("name", "kind"):
        entry = entry_in(rest)
        return entry and (word, *entry)
    if word == "drop" and re.fullmatch(NAME, rest):
        return (word, rest)
    if word in ("let", "bar", "free") and is_kind_text(rest):
        return (word, rest)
    return None


def bench_in(text):
    """The first element of a log whose line the text is, or None."""
    word, space, rest = text.partition(" ")
    if word != "bench" or not space:
        return None
    if rest == "-":
        return ("bench", ())
    entries = []
    for piece in rest.split(", "):
        entry = entry_in(piece, entries[-1][0] if entries else "")
        if entry is None:
            return None
        entries.append(entry)
    return ("bench", tuple(entries))


def maker_in(text):
    """The maker that the text writes, or None: the text is made a literal of Python."""
    if not is_maker_text(text):
        return None

    def head(match):
        told = match[1] if match[1].isdigit() else repr(match[1])
        return f"({told}, (" if match[2] else f"({told}, ())"

    # The closing parentheses of the text come first, those of the literal behind them.
    literal = re.sub(r"([a-z]+|[0-9]+)(\()?", head, text.replace(")", ",]]"))
    return ast.literal_eval(literal.replace("]", ")"))


def beginnings(whole):
    """The rests of a text, as tails behind its beginnings."""
    return [whole[k:] for k in range(len(whole) + 1)]


KIND_TAILS = ["p", "p -> p"] + beginnings(" -> p")
ENTRY_TAILS = KIND_TAILS + ["z" * k + ": p" for k in range(9)]
EVENT_TAILS = ENTRY_TAILS + [
    tail for word in ("name", "kind", "drop", "let", "bar", "free")
    for tail in beginnings(word + " p") + beginnings(word + " p: p")
]
BENCH_TAILS = ENTRY_TAILS + beginnings("bench -") + beginnings(", zzzzzzzz: p")
MAKER_TAILS = beginnings(", 0")


def can_begin(beginning, recognized, tails, closing):
    return any(
        recognized(beginning + tail + closing * depth)
        for depth in range(beginning.count("(") + 1)
        for tail in tails
    )


def column_by(text, possible):
    """The length of the longest beginning that is possible, 0 if not even the empty one is."""
    return max([k for k in range(len(text) + 1) if possible(text[:k])], default=0)


@functools.lru_cache(maxsize=None)
def kind_can_begin(beginning):
    return can_begin(beginning, is_kind_text, KIND_TAILS, ") -> p")


@functools.lru_cache(maxsize=None)
def entry_can_begin(beginning, above):
    return can_begin(beginning, lambda text: entry_in(text, above) is not None, ENTRY_TAILS, ") -> p")


@functools.lru_cache(maxsize=None)
def event_can_begin(beginning):
    return can_begin(beginning, lambda text: event_in(text) is not None, EVENT_TAILS, ") -> p")


@functools.lru_cache(maxsize=None)
def bench_can_begin(beginning):
    return can_begin(beginning, lambda text: bench_in(text) is not None, BENCH_TAILS, ") -> p")


@functools.lru_cache(maxsize=None)
def maker_can_begin(beginning):
    return can_begin(beginning, is_maker_text, MAKER_TAILS, ")")


def kind_column(text):
    return column_by(text, kind_can_begin)


def entry_column(text, above=""):
    return column_by(text, lambda beginning: entry_can_begin(beginning, above))


def event_column(text):
    return column_by(text, event_can_begin)


def bench_column(text):
    return column_by(text, bench_can_begin)


def maker_column(text):
    return column_by(text, maker_can_begin)


SIGNS = "() ->:,abz019A_\n"


def changed_texts(text):
    """The text, cut off at every place, and with a sign put in, left out, doubled or exchanged at every place."""
    texts = [text, ""]
    for k in range(len(text) + 1):
        texts.append(text[:k])
        texts.append(text[k:])
        texts.extend(text[:k] + sign + text[k:] for sign in SIGNS)
    for k in range(len(text)):
        texts.append(text[:k] + text[k + 1:])
        texts.append(text[:k] + text[k] + text[k:])
        texts.append(text[:k] + text[k:k + 2][::-1] + text[k + 2:])
        texts.extend(text[:k] + sign + text[k + 1:] for sign in SIGNS)
    return list(dict.fromkeys(texts))
