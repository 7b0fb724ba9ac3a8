"""The reader of makers."""

from onlygiven.scanning import DIGITS, check_end, check_text, name_end, number_end, run_end, word_end


def head_end(text, at):
    """Reads a head, which is a name or a number."""
    if run_end(text, at, DIGITS, 1) > at:
        return number_end(0, text, at)
    return name_end(0, text, at, "")


def head_written(text):
    return int(text) if text.isdigit() else text


def maker_read(text):
    """The maker, by form, that the text writes."""
    check_text(text)
    # For each parenthesis that is not closed yet, the head ahead of it and the makers behind it; the whole maker
    # comes into the first row. No calls in calls: makers may be of any depth.
    heads = []
    rows = [[]]
    at = 0
    while True:
        end = head_end(text, at)
        head = head_written(text[at:end])
        at = end
        if text[at:at + 1] == "(":
            heads.append(head)
            rows.append([])
            at = at + 1
            continue
        rows[-1].append((head, ()))
        while heads and text[at:at + 1] == ")":
            makers = tuple(rows.pop())
            rows[-1].append((heads.pop(), makers))
            at = at + 1
        if not heads:
            check_end(0, text, at)
            return rows[0][0]
        at = word_end(0, text, at, ", ")
