"""Rows written as texts, and read back."""

from sumplace.errors import NoText
from sumplace.rows import is_row

# How many figures a number that is read back has at most.
FIGURES = 16


def show_row(row):
    """The text of a row: its numbers, parted by blanks; of none a minus."""
    if not row:
        return "-"
    return " ".join([str(number) for number in row])


def read_row(text):
    """The row that a text writes as show_row does; NoText of any other."""
    if not isinstance(text, str):
        raise NoText("no text")
    if text == "-":
        return []
    row = [written_number(word, FIGURES) for word in text.split(" ")]
    # A word that writes no number leaves None there, and that is no row either.
    if not is_row(row):
        raise NoText("no text of a row")
    return row


def written_number(word, most):
    """The whole number of at most so many figures that a word writes as str does; None where it writes none."""
    figures = word.removeprefix("-")
    # Asked first: only figures can be read, and what is too long is not even read.
    if not (figures.isascii() and figures.isdigit()) or len(figures) > most:
        return None
    number = int(word)
    # There are other ways to write it, with noughts ahead or a minus ahead of nought.
    if str(number) != word:
        return None
    return number
