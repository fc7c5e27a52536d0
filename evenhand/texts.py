"""Rows written as texts and read back."""

from evenhand.checks import check_row, is_share
from evenhand.errors import BadText

FIGURES = "0123456789"

# As many signs as -1000000 has. A longer word is no share, and Python doesn't read every long row of figures.
LONGEST = 8


def written(row):
    check_row(row)
    return " ".join([str(share) for share in row])


def is_number(word):
    if len(word) > LONGEST:
        return False
    figures = word[1:] if word.startswith("-") else word
    return len(figures) > 0 and all([sign in FIGURES for sign in figures])


def read_share(word):
    if not is_number(word):
        raise BadText("a share is written in figures alone, with - ahead if it is below 0")
    share = int(word)
    # Written anew, a number tells whether a needless nought or sign was there.
    if str(share) != word or not is_share(share):
        raise BadText("a share is written without a needless nought, from -1000000 to 1000000")
    return share


def read(text):
    if not isinstance(text, str):
        raise BadText("only a text is read")
    return [read_share(word) for word in text.split(" ")]
