"""A desk: it keeps a live pair of rows, is told rows of words, and answers each by a text."""

from sumplace.below import sums_to
from sumplace.errors import NoCommand
from sumplace.likes import nearest
from sumplace.live import Live
from sumplace.manieth import middle
from sumplace.notes import read_row, show_row, written_number

# How many figures a number that is told here has at most.
FIGURES = 30

SIDES = {"0": 0, "1": 1}


class Desk:
    """At first both rows are of none."""

    def __init__(self):
        self._live = Live([], [])

    def say(self, words):
        """The answer to a row of words; NoCommand of what is none, then what the command itself refuses."""
        if not isinstance(words, str):
            raise NoCommand("no text")
        live = self._live
        match words.split(" "):
            # Without a second blank, behind which a row would be told, this is no command.
            case ["row", side, *rest] if rest:
                self._new_row(read_side(side), " ".join(rest))
                return "ok"
            case ["put", side, number]:
                live.put(read_side(side), read_number(number))
                return "ok"
            case ["take", side, number]:
                live.take(read_side(side), read_number(number))
                return "ok"
            case ["undo"]:
                return "ok" if live.undo() else "none"
            case ["show", side]:
                return show_row(live.rows()[read_side(side)])
            case ["at", place]:
                return show_pair(live.at(read_place(place)))
            case ["below", number]:
                return str(live.below(read_number(number)))
            case question:
                one, other = live.rows()
                return answer(one, other, question)

    def _new_row(self, side, text):
        """Go on with a new live pair, whose row of the side is the one that the text writes."""
        row = read_row(text)
        one, other = self._live.rows()
        self._live = Live(row, other) if side == 0 else Live(one, row)


def answer(one, other, question):
    """The answer to a question, in words, that is answered by two rows alone; NoCommand of what is none."""
    match question:
        case ["to", number]:
            return str(sums_to(one, other, read_number(number)))
        case ["middle"]:
            return show_pair(middle(one, other))
        case ["nearest", number]:
            found = nearest(one, other, read_number(number))
            return "none" if found is None else show_pair(found)
        case _:
            raise NoCommand("no such command")


def show_pair(pair):
    """The text of (sum, place, place)."""
    return " ".join([str(part) for part in pair])


def read_side(word):
    """The side that a word tells; NoCommand where it tells none."""
    if word not in SIDES:
        raise NoCommand("no such side")
    return SIDES[word]


def read_number(word):
    """The number that a word writes; NoCommand where it writes none."""
    number = written_number(word, FIGURES)
    if number is None:
        raise NoCommand("no such number")
    return number


def read_place(word):
    """The number from 0 on that a word writes; NoCommand where it writes none."""
    number = read_number(word)
    if number < 0:
        raise NoCommand("no such place")
    return number
