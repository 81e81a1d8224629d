"""The desk, which is told rows of words [1, 2, 25, 27, 29]."""

import random
import time
import unittest

from sumplace.desk import Desk
from sumplace.errors import NoCommand, NoNumber, NoPlace, NoText
from sumplace.notes import show_row
from tests.helpers import all_pairs, drawn_row, no_wholes, refuses

THIRTY = "9" * 30
WORDS = ("row", "put", "take", "undo", "show", "at", "below", "to", "middle", "nearest")


def desk_of(one, other):
    """A desk with these rows, by texts."""
    desk = Desk()
    desk.say("row 0 " + one)
    desk.say("row 1 " + other)
    return desk


class Case(unittest.TestCase):
    def says(self, desk, *told):
        """Let the case fail unless the desk answers each row of words as told behind it."""
        for words, answer in zip(told[::2], told[1::2]):
            said = desk.say(words)
            self.assertIs(type(said), str)
            self.assertEqual(said, answer, words)

    def check(self, desk, one, other):
        """Let the case fail unless just these are the rows, and all is told of them."""
        self.says(desk, "show 0", show_row(one), "show 1", show_row(other))
        pairs = all_pairs(one, other)
        for place, pair in enumerate(pairs):
            self.says(desk, f"at {place}", "{} {} {}".format(*pair))
        refuses(self, desk.say, [f"at {len(pairs)}", f"at {len(pairs) + 1}", f"at {THIRTY}"], NoPlace)
        if pairs:
            self.says(desk, "middle", "{} {} {}".format(*pairs[len(pairs) // 2]))
        else:
            refuses(self, desk.say, ["middle"], NoPlace)
        numbers = {own + step for own in [0] + [pair[0] for pair in pairs[::3]] for step in (-1, 0, 1)}
        # The sum of two numbers of thirty figures may have one more, and is no number to be told then.
        for number in [number for number in numbers if abs(number) <= int(THIRTY)]:
            self.says(desk, f"below {number}", str(sum(1 for pair in pairs if pair[0] < number)))
            self.says(desk, f"to {number}", str(sum(1 for pair in pairs if pair[0] <= number)))
            near = min(pairs, key=lambda pair: abs(pair[0] - number), default=None)
            self.says(desk, f"nearest {number}", "none" if near is None else "{} {} {}".format(*near))


class TestAnswers(Case):
    def test_told_answers(self):
        self.says(
            Desk(),
            "row 0 1 2", "ok",
            "row 1 10 11 20", "ok",
            "show 0", "1 2",
            "show 1", "10 11 20",
            "at 0", "11 0 0",
            "at 2", "12 1 0",
            "at 5", "22 1 2",
            "middle", "13 1 1",
            "below 12", "1",
            "to 12", "3",
            "nearest 17", "13 1 1",
            "nearest 18", "21 0 2",
            "put 0 -7", "ok",
            "show 0", "-7 1 2",
            "at 0", "3 0 0",
            "take 1 11", "ok",
            "show 1", "10 20",
            "undo", "ok",
            "undo", "ok",
            "undo", "none",
            "show 0", "1 2",
            "show 1", "10 11 20",
        )

    def test_at_first_both_rows_are_of_none(self):
        desk = Desk()
        self.says(desk, "show 0", "-", "show 1", "-", "undo", "none", "below 5", "0", "to 5", "0", "nearest 5", "none")
        self.check(desk, [], [])

    def test_one_row_of_none(self):
        self.check(desk_of("-", "1 2"), [], [1, 2])
        self.check(desk_of("1 2", "-"), [1, 2], [])

    def test_like_numbers_and_numbers_below_nought(self):
        self.check(desk_of("4 4 4", "-2 -2"), [4] * 3, [-2] * 2)
        self.check(desk_of("-9 -7 -7 -1", "-20 -6 -6 0"), [-9, -7, -7, -1], [-20, -6, -6, 0])

    def test_numbers_of_thirty_figures(self):
        desk = Desk()
        self.says(desk, "put 0 " + THIRTY, "ok", "put 1 -" + THIRTY, "ok", "put 1 " + THIRTY, "ok", "put 0 0", "ok")
        most = int(THIRTY)
        self.check(desk, [0, most], [-most, most])
        self.says(desk, "at 3", f"{2 * most} 1 1", "below " + THIRTY, "2", "to " + THIRTY, "3", "to -" + THIRTY, "1")
        self.says(desk, "nearest -" + THIRTY, f"-{THIRTY} 0 0", "take 1 -" + THIRTY, "ok", "show 1", THIRTY)
        # Another row does away with none of them.
        self.says(desk, "row 1 5", "ok", "show 0", "0 " + THIRTY, "at 1", f"{most + 5} 1 0")

    def test_two_desks_by_themselves(self):
        one, other = Desk(), Desk()
        self.says(one, "put 0 1", "ok", "put 1 2", "ok")
        self.says(other, "show 0", "-", "undo", "none", "put 0 5", "ok")
        self.check(one, [1], [2])
        self.check(other, [5], [])

    def test_ways_drawn_by_chance(self):
        chance = random.Random(41)
        for _ in range(25):
            desk, states = Desk(), [([], [])]
            for _ in range(50):
                one, other = (list(row) for row in states[-1])
                side, number = chance.randrange(2), chance.randint(-4, 4)
                act = chance.choice(("put", "put", "take", "undo", "row", "refused"))
                if act == "put":
                    self.says(desk, f"put {side} {number}", "ok")
                    states.append((sorted(one + [number]), other) if side == 0 else (one, sorted(other + [number])))
                elif act == "take" and number in (one, other)[side]:
                    self.says(desk, f"take {side} {number}", "ok")
                    (one, other)[side].remove(number)
                    states.append((one, other))
                elif act == "undo":
                    self.says(desk, "undo", "ok" if len(states) > 1 else "none")
                    if len(states) > 1:
                        states.pop()
                elif act == "row" and chance.randrange(4) == 0:
                    row = drawn_row(chance, chance.randrange(4), 9)
                    self.says(desk, f"row {side} {show_row(row)}", "ok")
                    states = [(row, other) if side == 0 else (one, row)]
                else:
                    refuses(self, desk.say, [f"take {side} 99"], NoNumber)
                    refuses(self, desk.say, [f"row {side} 2 1"], NoText)
                self.check(desk, *states[-1])

    def test_rows_of_three_hundred_in_a_time_that_nobody_notices(self):
        chance = random.Random(42)
        one, other = drawn_row(chance, 300, 10 ** 7), drawn_row(chance, 300, 10 ** 7)
        pairs = all_pairs(one, other)
        desk = desk_of(show_row(one), show_row(other))
        begin = time.process_time()
        for place in range(0, 90000, 4000):
            total, first, second = pairs[place]
            self.says(desk, f"at {place}", f"{total} {first} {second}")
            below = desk.say(f"below {total}")
            self.says(desk, f"nearest {total}", desk.say(f"at {below}"))
        self.says(desk, "show 0", show_row(one), "show 1", show_row(other), "to 20000000", "90000")
        self.assertLess(time.process_time() - begin, 3)


class TestRow(Case):
    def test_the_other_row_stays_as_it_is(self):
        desk = desk_of("1 2", "10")
        self.says(desk, "put 1 3", "ok", "row 0 5 5", "ok")
        self.check(desk, [5, 5], [3, 10])
        self.says(desk, "take 0 5", "ok", "row 1 -", "ok")
        self.check(desk, [5], [])

    def test_what_was_done_is_forgotten(self):
        desk = desk_of("1 2", "10")
        self.says(desk, "put 1 3", "ok", "put 0 3", "ok", "row 0 1 2", "ok", "undo", "none")
        self.check(desk, [1, 2], [3, 10])
        self.says(desk, "put 0 0", "ok", "row 1 -4", "ok", "undo", "none")
        self.says(desk, "take 0 2", "ok", "undo", "ok", "undo", "none")
        self.check(desk, [0, 1, 2], [-4])

    def test_a_row_of_none(self):
        desk = desk_of("1 2", "10")
        self.says(desk, "row 0 -", "ok", "show 0", "-", "show 1", "10")

    def test_no_text_of_a_row(self):
        desk = desk_of("1 2", "10")
        self.says(desk, "put 1 11", "ok")
        texts = ["", " ", "2 1", "01", "-0", "+1", " 1", "1 ", "1  2", "a", "1 a", "1\n", "\n", "1\n2"]
        texts += ["--", "- -", "- 1", "1" * 17, "-" + "1" * 17, THIRTY, "1.5", "1,2", "[]", "ok", "row 0 1"]
        for side in (0, 1):
            # The first of them is of none there, behind the second blank.
            refuses(self, desk.say, [f"row {side} {text}" for text in texts], NoText)
        # Nothing was changed, and what was done is not forgotten.
        self.says(desk, "show 0", "1 2", "show 1", "10 11", "undo", "ok", "undo", "none")
        self.check(desk, [1, 2], [10])

    def test_no_second_blank(self):
        for side in (0, 1):
            refuses(self, Desk().say, [f"row {side}"], NoCommand)
            desk = desk_of("1 2", "10")
            self.says(desk, f"put {side} 11", "ok")
            refuses(self, desk.say, [f"row {side}", f"row {side}-", f"row {side}\n", f"row {side}\n1"], NoCommand)
            refuses(self, desk.say, [f"row {side} "], NoText)
            # Nothing was changed, and what was done is not forgotten.
            self.check(desk, *(([1, 2, 11], [10]) if side == 0 else ([1, 2], [10, 11])))
            self.says(desk, "undo", "ok", "undo", "none")
            self.check(desk, [1, 2], [10])

    def test_the_side_is_told_ahead_of_the_row(self):
        desk = desk_of("1 2", "10")
        for side in ("2", "-1", "00", "01", "", "a", "x\n", "0\n", "True", "-0", "+1"):
            refuses(self, desk.say, [f"row {side} {text}" for text in ("1 2", "2 1", "", "-")], NoCommand)
        told = ["row", "row ", "row  0 1", "row  1", "row 2", "row 10 1", "row0 1", "row - 1"]
        refuses(self, desk.say, told, NoCommand)
        self.check(desk, [1, 2], [10])

    def test_sixteen_figures(self):
        most = "9" * 16
        self.says(desk_of(f"-{most} {most}", "0"), "show 0", f"-{most} {most}", "at 0", f"-{most} 0 0")


class TestRefused(Case):
    def setUp(self):
        self.desk = desk_of("1 2", "10 11 20")
        self.says(self.desk, "put 0 7", "ok")

    def no_command(self, *told):
        refuses(self, self.desk.say, told, NoCommand)

    def unchanged(self):
        """The rows are as they were, and what is undone is the put of the begin."""
        self.check(self.desk, [1, 2, 7], [10, 11, 20])
        self.says(self.desk, "undo", "ok", "show 0", "1 2", "undo", "none", "show 1", "10 11 20")

    def test_what_is_no_text(self):
        self.no_command(*no_wholes())
        self.no_command(0, 1, -1, 10 ** 40, b"undo", ["undo"], ("undo",), ["at", "0"], {"undo": 0})
        self.unchanged()

    def test_what_is_none_of_the_commands(self):
        self.no_command("", " ", "  ", "-", "0", "7", "redo", "swap", "count", "quit", "\n", "~")
        self.no_command("Undo", "UNDO", "undo\n", "\nundo", "undo.", "un do", "rows 0", "placeof 0 0")
        self.no_command("above 3", "from 3", "sum 3", "product 3", "next", "walk 0", "joined", "most")
        self.unchanged()

    def test_blanks_that_part_nothing(self):
        told = ("put 0 5", "take 0 1", "undo", "show 0", "at 0", "below 5", "to 5", "middle", "nearest 5")
        for words in told:
            self.no_command(" " + words, words + " ", words + "\n", "\n" + words)
            if " " in words:
                otherwise = [words.replace(" ", blank, 1) for blank in ("  ", "\n", "", " \n")]
                self.no_command(*otherwise)
        self.no_command("put 0  5", "take 0  1", "take  0 1", "put 0\n5")
        self.unchanged()

    def test_too_few_or_too_many_words(self):
        self.no_command(*[word for word in WORDS if word not in ("undo", "middle")])
        self.no_command("put 0", "put 5", "put 0 5 6", "take 0", "take 0 1 2", "undo 1", "undo undo")
        self.no_command("show 0 1", "at 0 1", "below 5 6", "to 5 6", "middle 0", "nearest 5 6")
        self.unchanged()

    def test_no_side(self):
        for side in ("2", "-1", "00", "01", "10", "a", "-", "True", "0.0", "+1", "-0", "", "0\n"):
            self.no_command(f"put {side} 5", f"take {side} 1", f"take {side} 99", f"show {side}")
        self.unchanged()

    def test_no_number(self):
        for number in ("", "-", "a", "01", "00", "-0", "-01", "+1", "--1", "1-", "1.0", "1e3", "1_0", "0x1", "1\n"):
            self.no_command(f"put 0 {number}", f"put 1 {number}", f"take 0 {number}")
            self.no_command(f"below {number}", f"to {number}", f"nearest {number}")
        for number in ("1" + "0" * 30, "-1" + "0" * 30, "9" * 31, "9" * 5900, "-" + "9" * 5900, "0" * 30, "0" * 31):
            self.no_command(f"put 0 {number}", f"take 0 {number}", f"at {number}")
            self.no_command(f"below {number}", f"to {number}", f"nearest {number}")
        self.unchanged()

    def test_no_place(self):
        refuses(self, self.desk.say, ["at 9", "at 10", "at 99", "at " + THIRTY], NoPlace)
        for place in ("-1", "-9", "-0", "-", "00", "01", "+1", "a", "", "1.0", "1\n", "True", "-" + THIRTY):
            self.no_command(f"at {place}")
        self.unchanged()

    def test_no_place_where_there_is_no_pair(self):
        for desk in (Desk(), desk_of("1 2", "-"), desk_of("-", "1 2")):
            refuses(self, desk.say, ["at 0", "at 1", "middle"], NoPlace)

    def test_a_number_that_is_not_there_to_be_taken(self):
        refuses(self, self.desk.say, ["take 0 0", "take 0 10", "take 1 1", "take 1 -10", "take 0 " + THIRTY], NoNumber)
        refuses(self, Desk().say, ["take 0 0", "take 1 0"], NoNumber)
        self.unchanged()

    def test_one_too_many_in_a_row_of_three_hundred(self):
        desk = desk_of(" ".join(["5"] * 299), "1")
        self.says(desk, "put 0 6", "ok")
        refuses(self, desk.say, ["put 0 6", "put 0 5", "put 0 -1", "put 0 " + THIRTY], NoNumber)
        refuses(self, desk.say, ["put 0 06", "put 2 6", "put 0"], NoCommand)
        self.says(desk, "show 0", "5 " * 299 + "6", "put 1 2", "ok", "undo", "ok", "undo", "ok", "undo", "none")
        self.says(desk, "show 0", " ".join(["5"] * 299), "show 1", "1")

    def test_what_is_refused_is_forgotten_at_once(self):
        for words, refusal in (
            ("put 0 x", NoCommand),
            ("put 2 1", NoCommand),
            ("take 0 5", NoNumber),
            ("at 9", NoPlace),
            ("row 0 2 1", NoText),
            ("row 1 ", NoText),
            ("row 1", NoCommand),
            ("undo it", NoCommand),
        ):
            desk = desk_of("1 2", "10 11 20")
            self.says(desk, "put 0 7", "ok", "put 1 7", "ok", "undo", "ok")
            refuses(self, desk.say, [words], refusal)
            self.check(desk, [1, 2, 7], [10, 11, 20])
            self.says(desk, "undo", "ok", "undo", "none")


if __name__ == "__main__":
    unittest.main()
