"""The rows of a desk's text: whether they're so written, and what they say.

What a row says is a tuple of its word and of all that stands behind it, read.
"""

from handledeeds.errors import BadRow
from handledeeds.errors import BadText
from handledeeds.kindheads import built
from handledeeds.kinds import is_sheet
from handledeeds.kindtext import KindReader
from handledeeds.limits import DESK_FIGURES
from handledeeds.limits import DESK_ROWS
from handledeeds.limits import DESK_SIGNS
from handledeeds.termtext import term_in
from handledeeds.words import is_name
from handledeeds.words import is_plain

# What stands behind the word of a row.
DESK_SHAPES = {
    "deed": ("name", "kind", "kind"),
    "define": ("name", "term"),
    "drop": ("name",),
    "start": ("term",),
    "go": ("number",),
    "answer": ("number", "value"),
    "stop": ("number",),
    "undo": (),
    "kind": ("name",),
    "needs": ("name",),
    "names": (),
    "runs": (),
    "outcome": ("number",),
    "trace": ("number",),
    "counts": ("number",),
    "deeds": (),
}


def rows_said(text):
    """The pair of a text's sheet and the list of what its other rows say; BadRow."""
    sheet = ()
    said = []
    for at, row in enumerate(text.split("\n")):
        if row != "":
            told = row_said(row) if at < DESK_ROWS and len(row) <= DESK_SIGNS else None
            if told is None:
                raise BadRow(at)
            if told[0] != "deed":
                said.append(told)
                continue
            sheet = (*sheet, told[1:])
            if said or not is_sheet(sheet):
                raise BadRow(at)
    return (sheet, said)


def row_said(row):
    """What a row says; None where it isn't so written."""
    words = row.split(" ")
    if words[0] not in DESK_SHAPES:
        return None
    said = [words[0]]
    at = 1
    for sort in DESK_SHAPES[words[0]]:
        reader = READERS[sort]
        read = reader(words, at)
        if read is None:
            return None
        told, at = read
        said.append(told)
    return tuple(said) if at == len(words) else None


# Each tells the pair of what's read of the words from at on, and where it ends; None where there's no such.


def read_name(words, at):
    return (words[at], at + 1) if at < len(words) and is_name(words[at]) else None


def read_number(words, at):
    return (int(words[at]), at + 1) if at < len(words) and is_number_word(words[at]) else None


def is_number_word(word):
    """Whether a word is a number of not too many plain figures."""
    return is_plain(word) and len(word) <= DESK_FIGURES


def read_term(words, at):
    try:
        return (term_in(" ".join(words[at:])), len(words))
    except BadText:
        return None


def read_kind(words, at):
    reader = KindReader()
    while reader.wants:
        if at == len(words) or not reader.takes(words[at]):
            return None
        at += 1
    return (built(reader.heads), at)


def read_value(words, at):
    # Of each pair that's begun what's read of it, the innermost one last.
    begun = []
    while at < len(words):
        word = words[at]
        at += 1
        if word == "(":
            begun.append([])
            continue
        if word == ")" and begun and len(begun[-1]) == 2:
            value = tuple(begun.pop())
        elif is_number_word(word):
            value = int(word)
        else:
            return None
        if not begun:
            return (value, at)
        begun[-1].append(value)
    return None


READERS = {
    "name": read_name,
    "number": read_number,
    "term": read_term,
    "kind": read_kind,
    "value": read_value,
}
