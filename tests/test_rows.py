import copy
import unittest

from talkhall.rows import is_row
from things import deep, no_names, no_texts

ROLES = ("guest", "speaker", "keeper", "owner")
SETTINGS = {"door": ("open", "asked"), "voice": ("all", "some"), "past": ("shown", "hidden")}
WORDS = ("found", "enter", "leave", "set", "ask", "unbar", "role", "out", "bar", "say", "mend", "gone")
NO_NUMBERS = [thing for thing in no_texts() if isinstance(thing, bool) or not isinstance(thing, int) or thing < 1] + [
    "", "1", "one", -7, -10 ** 30]
NO_WORDS = ["", "x" * 61, "x" * 100] + no_texts()

ROWS = [
    (1, "ann", "found"),
    (2, "bob", "enter"),
    (3, "bob", "leave"),
    (4, "ann", "ask", "bob"),
    (5, "ann", "unbar", "bob"),
    (6, "ann", "out", "bob"),
    (7, "ann", "bar", "bob"),
    (8, "ann", "say", "hello", None),
    (9, "ann", "say", "hello", 8),
    (10, "ann", "mend", 8, "hello there"),
    (11, "ann", "gone", 8),
]
ROWS += [(12, "ann", "role", "bob", role) for role in ROLES]
ROWS += [(13, "ann", "set", what, value) for what in SETTINGS for value in SETTINGS[what]]


class Rows(unittest.TestCase):
    def is_one(self, row):
        self.assertIs(is_row(row), True, row)

    def is_none(self, thing):
        self.assertIs(is_row(thing), False, thing)

    def put(self, row, place, thing):
        return row[:place] + (thing,) + row[place + 1:]

    def test_a_row_of_each_word(self):
        self.assertEqual({row[2] for row in ROWS}, set(WORDS))
        for row in ROWS:
            self.is_one(row)

    def test_the_number_is_whole_and_from_one_on(self):
        for row in ROWS:
            for number in (1, 2, 99, 10 ** 30):
                self.is_one(self.put(row, 0, number))
            for thing in NO_NUMBERS:
                self.is_none(self.put(row, 0, thing))

    def test_who_is_a_name(self):
        for row in ROWS:
            for name in ("a", "z", "abcdef"):
                self.is_one(self.put(row, 1, name))
            for thing in no_names():
                self.is_none(self.put(row, 1, thing))

    def test_no_other_word(self):
        others = ["", "come", "Found", "SAY", "says", "sa", "say ", " say", "take", "guest", "door", "words"]
        for row in ROWS:
            for thing in others + no_texts() + [("say",), ["say"]]:
                self.is_none(self.put(row, 2, thing))

    def test_too_few_and_too_many_parts(self):
        for row in ROWS:
            for end in range(len(row)):
                self.is_none(row[:end])
            for more in (None, 1, "bob", "owner", "open", (), []):
                self.is_none(row + (more,))
                self.is_none(row + (more, more))

    def test_parts_of_another_word(self):
        tails = {row[3:] for row in ROWS}
        good = {(row[2], row[3:]) for row in ROWS}
        alike = [("ask", "unbar", "out", "bar"), ("found", "enter", "leave")]
        for word in WORDS:
            for tail in tails:
                fits = (word, tail) in good or any(
                    word in words and (other, tail) in good for words in alike for other in words)
                self.assertIs(is_row((1, "ann", word) + tail), fits, (word, tail))

    def test_whom_is_a_name(self):
        for row in ROWS:
            if row[2] in ("ask", "unbar", "out", "bar", "role"):
                for name in ("a", "z", "abcdef", "ann"):
                    self.is_one(self.put(row, 3, name))
                for thing in no_names():
                    self.is_none(self.put(row, 3, thing))

    def test_no_other_role(self):
        for thing in ["", "Guest", "guests", "own", "open", "bob"] + no_texts() + [("owner",), ["owner"]]:
            self.is_none((1, "ann", "role", "bob", thing))

    def test_no_other_setting(self):
        values = [value for what in SETTINGS for value in SETTINGS[what]]
        for thing in ["", "Door", "doors", "open", "role", "guest"] + no_texts() + [("door",), ["door"]]:
            for value in values:
                self.is_none((1, "ann", "set", thing, value))

    def test_each_setting_has_its_own_two_values(self):
        values = [value for what in SETTINGS for value in SETTINGS[what]]
        for what in SETTINGS:
            for thing in values + ["", "Open", "opened", "door", "none"] + no_texts() + [SETTINGS[what], ["all"]]:
                fits = isinstance(thing, str) and thing in SETTINGS[what]
                self.assertIs(is_row((1, "ann", "set", what, thing)), fits, (what, thing))

    def test_words_of_say_and_mend(self):
        for words in ("x", "x" * 60, " ", "@ann \"\\~"):
            self.is_one((1, "ann", "say", words, None))
            self.is_one((2, "ann", "say", words, 1))
            self.is_one((2, "ann", "mend", 1, words))
        for thing in NO_WORDS:
            self.is_none((1, "ann", "say", thing, None))
            self.is_none((2, "ann", "say", thing, 1))
            self.is_none((2, "ann", "mend", 1, thing))

    def test_what_is_answered_mended_and_taken_back_is_a_number(self):
        for number in (1, 2, 99, 10 ** 30):
            self.is_one((7, "ann", "say", "hello", number))
            self.is_one((7, "ann", "mend", number, "hello"))
            self.is_one((7, "ann", "gone", number))
        for thing in NO_NUMBERS:
            self.assertIs(is_row((7, "ann", "say", "hello", thing)), thing is None, thing)
            self.is_none((7, "ann", "mend", thing, "hello"))
            self.is_none((7, "ann", "gone", thing))

    def test_what_is_no_tuple_is_no_row(self):
        for thing in no_texts() + ["", "ann", "1 ann found", "found"]:
            self.is_none(thing)
        for row in ROWS:
            self.is_none(list(row))
            self.is_none([row])
            self.is_none((row,))
            self.is_none(deep(tuple, row))
            self.is_none(deep(list, row))

    def test_the_same_is_told_again_and_nothing_is_changed(self):
        for thing in ROWS + [list(row) for row in ROWS] + [(1, "ann", "say", ["hello"], None), [[1], ["ann"]]]:
            before = copy.deepcopy(thing)
            self.assertIs(is_row(thing), is_row(thing))
            self.assertEqual(thing, before)


if __name__ == "__main__":
    unittest.main()
