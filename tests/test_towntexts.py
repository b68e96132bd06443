"""Point 10: texts of towns."""

import unittest
from itertools import product

from plain_counts import all_crossings, towns_up_to
from wrong_values import NOT_NUMBER_WORDS, NOT_TEXTS

from roundstreets.errors import BadLine, BadText
from roundstreets.towntexts import read_town, write_town

TOWN = (2, 3, (1, 0), (0, 2))
TEXT = "town 2 3\nfirst 1 0\nsecond 0 2"
LARGEST = (12, 12, (11, 10), (0, 11))
# Signs that some programs take for blanks or for ends of lines.
OTHER_BLANKS = [
    "\t", "\r", "\f", "\v", "\x00", "\x1c", "\x1d", "\x1e", "\x1f", "\x85", "\xa0", "\u1680", "\u2003", "\u200b",
    "\u2028", "\u2029", "\u202f", "\u3000", "\ufeff",
]


class Written(unittest.TestCase):
    def test_ordinary_towns(self):
        self.assertEqual(write_town(TOWN), TEXT)
        self.assertEqual(write_town((1, 2, (0, 1), (0, 0))), "town 1 2\nfirst 0 1\nsecond 0 0")

    def test_longest_sides(self):
        self.assertEqual(write_town(LARGEST), "town 12 12\nfirst 11 10\nsecond 0 11")

    def test_small_towns(self):
        for town in towns_up_to(8):
            width, height, first, second = town
            lines = [
                " ".join(["town", str(width), str(height)]),
                " ".join(["first", str(first[0]), str(first[1])]),
                " ".join(["second", str(second[0]), str(second[1])]),
            ]
            self.assertEqual(write_town(town), "\n".join(lines), town)


class ThereAndBack(unittest.TestCase):
    def test_small_towns(self):
        for town in towns_up_to(12):
            self.assertEqual(read_town(write_town(town)), town)

    def test_longest_sides(self):
        for town in [LARGEST, (12, 1, (0, 0), (11, 0)), (1, 12, (0, 11), (0, 10)), (12, 12, (0, 0), (11, 11))]:
            self.assertEqual(read_town(write_town(town)), town)

    def test_plain_kinds(self):
        town = read_town(TEXT)
        for value in [town, town[2], town[3]]:
            self.assertIs(value.__class__, tuple)
        for value in [*town[:2], *town[2], *town[3]]:
            self.assertIs(value.__class__, int)


class Spaces(unittest.TestCase):
    def test_before_between_and_behind_words(self):
        for before, between, behind in product(("", " ", "   "), (" ", "  ", "     "), ("", " ", "    ")):
            lines = [before + line.replace(" ", between) + behind for line in TEXT.split("\n")]
            self.assertEqual(read_town("\n".join(lines)), TOWN, lines)

    def test_in_one_place_only(self):
        for at, sign in enumerate(TEXT + "\n"):
            if sign in " \n":
                self.assertEqual(read_town(TEXT[:at] + "  " + TEXT[at:]), TOWN, at)
                self.assertEqual(read_town(TEXT[:at + 1] + "  " + TEXT[at + 1:]), TOWN, at)
        self.assertEqual(read_town(" " + TEXT), TOWN)

    def test_very_many(self):
        self.assertEqual(read_town(TEXT.replace(" ", " " * 1000)), TOWN)

    def test_void_lines_anywhere(self):
        town, first, second = TEXT.split("\n")
        for voids in [[""], [" "], ["", ""], ["   ", "", " "]]:
            for places in product(([], voids), repeat=4):
                lines = [*places[0], town, *places[1], first, *places[2], second, *places[3]]
                self.assertEqual(read_town("\n".join(lines)), TOWN, lines)


class Refused(unittest.TestCase):
    def assert_bad_line(self, line, word, text):
        with self.assertRaises(BadLine) as caught:
            read_town(text)
        error = caught.exception
        self.assertIs(error.__class__, BadLine)
        self.assertEqual((error.line, error.word), (line, word), text)
        self.assertEqual([error.line.__class__, error.word.__class__], [int, int])

    def assert_each_line(self, line, words, word):
        """Refuse the words in place of a line, alone, spaced, and behind void lines."""
        lines = TEXT.split("\n")
        lines[line - 1] = " ".join(words)
        self.assert_bad_line(line, word, "\n".join(lines))
        lines[line - 1] = "  " + "   ".join(words) + " "
        self.assert_bad_line(line, word, "\n".join(lines))
        self.assert_bad_line(line + 2, word, "\n".join(["", "  ", *lines]))
        lines.insert(line - 1, "")
        self.assert_bad_line(line + 1, word, "\n".join(lines))

    def test_a_wrong_first_word(self):
        for line, words in enumerate([row.split() for row in TEXT.split("\n")], 1):
            right = words[0]
            for wrong in [
                "twn", "Town", "TOWN", "towns", "First", "seconds", "first:", "0", "1", "x", right + "s", right[:-1],
                right.upper(), right.title(), "-" + right, right + right, "\"" + right + "\"", right + "\t", "3",
            ]:
                self.assert_each_line(line, [wrong, *words[1:]], 1)
                self.assert_each_line(line, [wrong], 1)
                self.assert_each_line(line, [wrong, "x", "y", "z"], 1)
            self.assert_each_line(line, words[1:], 1)
            for other in {"town", "first", "second"} - {right}:
                self.assert_each_line(line, [other, *words[1:]], 1)

    def test_a_wrong_number(self):
        for line, words in enumerate([row.split() for row in TEXT.split("\n")], 1):
            for wrong in NOT_NUMBER_WORDS:
                self.assert_each_line(line, [words[0], wrong, words[2]], 2)
                self.assert_each_line(line, [words[0], words[1], wrong], 3)
                self.assert_each_line(line, [words[0], wrong, wrong], 2)
                self.assert_each_line(line, [words[0], wrong], 2)
                self.assert_each_line(line, [words[0], wrong, words[2], "1"], 2)
                self.assert_each_line(line, [words[0], words[1], wrong, "1"], 3)

    def test_a_side_beyond_its_limits(self):
        for side in range(13):
            for word in ("0", "13", "14", "100", "120"):
                if side > 0:
                    self.assert_bad_line(1, 3, f"town {side} {word}\nfirst 0 0\nsecond 0 1")
                self.assert_bad_line(1, 2, f"town {word} {side}\nfirst 0 0\nsecond 0 1")

    def test_a_height_1_for_the_width_1(self):
        self.assert_bad_line(1, 3, "town 1 1")
        self.assert_bad_line(1, 3, "town 1 1 1")
        self.assert_bad_line(1, 3, "town 1 1\nfirst 0 0\nsecond 0 0")
        self.assert_bad_line(2, 3, "\ntown 1 1 x\nfirst")
        self.assertEqual(read_town("town 1 2\nfirst 0 0\nsecond 0 1")[:2], (1, 2))
        self.assertEqual(read_town("town 2 1\nfirst 0 0\nsecond 1 0")[:2], (2, 1))

    def test_a_step_beyond_the_sides(self):
        self.assert_each_line(2, ["first", "2", "0"], 2)
        self.assert_each_line(2, ["first", "0", "3"], 3)
        self.assert_each_line(3, ["second", "2", "0"], 2)
        self.assert_each_line(3, ["second", "0", "3"], 3)
        self.assert_each_line(3, ["second", "2", "3"], 2)
        self.assert_bad_line(2, 2, "town 1 12\nfirst 1 11\nsecond 0 0")
        self.assert_bad_line(2, 3, "town 12 1\nfirst 11 1\nsecond 0 0")
        self.assert_bad_line(2, 2, "town 12 12\nfirst 12 11\nsecond 0 0")
        self.assert_bad_line(3, 3, "town 12 12\nfirst 11 11\nsecond 0 12")

    def test_the_same_step_twice(self):
        self.assert_each_line(3, ["second", "1", "0"], 3)
        self.assert_each_line(3, ["second", "1", "0", "0"], 3)
        self.assert_bad_line(3, 3, "town 2 1\nfirst 1 0\nsecond 1 0")
        self.assert_bad_line(3, 3, "town 2 1\nfirst 1 0\nsecond 1")
        self.assert_bad_line(3, 3, "town 12 12\nfirst 0 0\nsecond 0 0")
        self.assertEqual(read_town("town 2 3\nfirst 1 0\nsecond 1 1"), (2, 3, (1, 0), (1, 1)))
        self.assertEqual(read_town("town 2 3\nfirst 1 0\nsecond 0 0"), (2, 3, (1, 0), (0, 0)))
        self.assertEqual(read_town("town 2 3\nfirst 1 0\nsecond 0 1"), (2, 3, (1, 0), (0, 1)))

    def test_a_lacking_word(self):
        for line, words in enumerate([row.split() for row in TEXT.split("\n")], 1):
            self.assert_each_line(line, words[:1], 2)
            self.assert_each_line(line, words[:2], 3)

    def test_a_fourth_word(self):
        for line, words in enumerate([row.split() for row in TEXT.split("\n")], 1):
            for more in (["0"], ["x"], ["0", "0"], ["first"], ["second", "0", "1"], ["\t"]):
                self.assert_each_line(line, words + more, 4)

    def test_a_fourth_line(self):
        for more in ("second 0 2", "town 2 3", "x", "third 0 0", "  x", "0", "\t"):
            self.assert_bad_line(4, 1, TEXT + "\n" + more)
            self.assert_bad_line(6, 1, TEXT + "\n\n  \n" + more)
            self.assert_bad_line(5, 1, "\n" + TEXT + "\n" + more + "\n" + more)

    def test_a_lacking_line(self):
        town, first, _ = TEXT.split("\n")
        self.assert_bad_line(2, 1, town)
        self.assert_bad_line(3, 1, town + "\n")
        self.assert_bad_line(3, 1, "\n" + town)
        self.assert_bad_line(5, 1, town + "\n\n  \n ")
        self.assert_bad_line(3, 1, town + "\n" + first)
        self.assert_bad_line(4, 1, town + "\n" + first + "\n")
        self.assert_bad_line(7, 1, "\n" + town + "\n\n" + first + "\n \n")

    def test_void_texts(self):
        self.assert_bad_line(2, 1, "")
        self.assert_bad_line(2, 1, " ")
        self.assert_bad_line(2, 1, "    ")
        self.assert_bad_line(3, 1, "\n")
        self.assert_bad_line(4, 1, "\n\n")
        self.assert_bad_line(4, 1, " \n   \n")

    def test_the_first_wrong_line_counts(self):
        self.assert_bad_line(1, 3, "town 2 0\nfrst 1 0\nsecond 0")
        self.assert_bad_line(2, 1, "town 2 3\nfrst 1 0\nsecond 0 0 0 0\nx")
        self.assert_bad_line(3, 4, "town 2 3\nfirst 1 0\nsecond 0 0 0 0\nx")
        self.assert_bad_line(1, 4, "town 2 3 4")
        self.assert_bad_line(1, 2, "town")
        self.assert_bad_line(2, 3, "town 2 3\nfirst 1")
        self.assert_bad_line(2, 1, "town 2 3\nsecond 0 2")
        self.assert_bad_line(1, 1, "first 1 0\nsecond 0 2\ntown 2 3")

    def test_other_signs_than_spaces_between_words(self):
        for blank in OTHER_BLANKS:
            self.assert_bad_line(1, 1, TEXT.replace("town ", "town" + blank))
            self.assert_bad_line(1, 2, TEXT.replace("town 2 3", "town 2" + blank + "3"))
            self.assert_bad_line(2, 1, TEXT.replace("first ", "first" + blank))
            self.assert_bad_line(2, 2, TEXT.replace("first 1 0", "first 1" + blank + "0"))
            self.assert_bad_line(3, 2, TEXT.replace("second 0 2", "second 0" + blank + "2"))

    def test_other_signs_than_spaces_beside_words(self):
        for blank in OTHER_BLANKS:
            self.assert_bad_line(1, 1, blank + TEXT)
            self.assert_bad_line(1, 1, TEXT.replace("town", "town" + blank))
            self.assert_bad_line(1, 2, TEXT.replace("town 2", "town " + blank + "2"))
            self.assert_bad_line(1, 2, TEXT.replace("town 2", "town " + blank + " 2"))
            self.assert_bad_line(1, 3, TEXT.replace("2 3", "2 3" + blank))
            self.assert_bad_line(1, 4, TEXT.replace("2 3", "2 3 " + blank))
            self.assert_bad_line(2, 1, TEXT.replace("first", blank + " first"))
            self.assert_bad_line(3, 3, TEXT + blank)
            self.assert_bad_line(3, 4, TEXT + " " + blank)

    def test_other_signs_than_newlines_between_lines(self):
        for blank in OTHER_BLANKS:
            self.assert_bad_line(1, 3, TEXT.replace("\n", blank))
            self.assert_bad_line(1, 4, TEXT.replace("\n", " " + blank + " "))
            self.assert_bad_line(1, 3, TEXT.replace("\n", blank + "\n"))
            self.assert_bad_line(2, 1, TEXT.replace("\nfirst", "\n" + blank + "\nfirst"))
            self.assert_bad_line(4, 1, TEXT + "\n" + blank)
            self.assert_bad_line(1, 1, blank + "\n" + TEXT)
            self.assert_bad_line(1, 1, blank)

    def test_a_very_long_text(self):
        self.assert_bad_line(1, 1, "x" * 100000)
        self.assert_bad_line(1, 4, "town 2 3 " + "4 " * 100000)
        self.assert_bad_line(100002, 1, "\n" * 100000)


def plain_wrong_word(words, name, pairs):
    """The first word of a line that cannot stand or is lacking, None without one; pairs are two words each."""
    if words[:1] != [name]:
        return 1
    if len(words) < 2 or words[1] not in {first for first, _ in pairs[0]}:
        return 2
    if len(words) < 3 or (words[1], words[2]) not in pairs[1]:
        return 3
    return None if len(words) == 3 else 4


def in_words(pairs):
    return {(str(x), str(y)) for x, y in pairs}


class EveryLineOfSomeWords(unittest.TestCase):
    def check(self, line, words, name, pairs, texts):
        """Compare what is read with the first wrong word, within the text before the line and behind it."""
        wrong = plain_wrong_word(list(words), name, pairs)
        text = texts[0] + " ".join(words) + texts[1]
        if wrong is None:
            self.assertIsInstance(read_town(text), tuple, text)
        else:
            with self.assertRaises(BadLine) as caught:
                read_town(text)
            self.assertEqual((caught.exception.line, caught.exception.word), (line, wrong), text)

    def test_the_line_town(self):
        pairs = in_words((x, y) for x in range(1, 13) for y in range(1, 13) if x + y > 2)
        for many in (1, 2, 3, 4):
            for words in product(("town", "0", "1", "01", "2", "12", "13"), repeat=many):
                # These steps are within all sides that the words can tell but 1.
                y = "1" if words[2:] != ("1",) else "0"
                x = "1" if y == "0" else "0"
                self.check(1, words, "town", (pairs, pairs), ("", f"\nfirst 0 0\nsecond {x} {y}"))

    def test_the_lines_first_and_second(self):
        for width, height in [(1, 2), (2, 1), (2, 2), (3, 2)]:
            pairs = in_words(all_crossings(width, height))
            for many in (1, 2, 3, 4):
                for words in product(("first", "0", "1", "00", "2", "3"), repeat=many):
                    if words[1:] == ("0", "0"):
                        continue
                    self.check(2, words, "first", (pairs, pairs), (f"town {width} {height}\n", "\nsecond 0 0"))
                for words in product(("second", "0", "1", "00", "2", "3"), repeat=many):
                    before = f"town {width} {height}\nfirst 0 0\n"
                    self.check(3, words, "second", (pairs, pairs - {("0", "0")}), (before, "\n"))


class NoStrings(unittest.TestCase):
    def test_other_kinds(self):
        for value in NOT_TEXTS:
            with self.assertRaises(BadText) as caught:
                read_town(value)
            self.assertIs(caught.exception.__class__, BadText)
