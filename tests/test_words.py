import copy
import unittest

from talkhall.words import called, is_name, is_words
from things import no_names, no_texts

LETTERS = "abcdefghijklmnopqrstuvwxyz"
SIGNS = "".join(chr(code) for code in range(ord(" "), ord("~") + 1))


class IsName(unittest.TestCase):
    def test_texts_of_one_to_six_letters_are_names(self):
        for length in range(1, 7):
            self.assertIs(is_name("abcdef"[:length]), True)
        for letter in LETTERS:
            self.assertIs(is_name(letter), True)
            self.assertIs(is_name(letter * 6), True)

    def test_no_other_length_is_a_name(self):
        for text in ("", "abcdefg", "abcdefgh", "a" * 60):
            self.assertIs(is_name(text), False, text)

    def test_no_other_sign_stands_anywhere_in_a_name(self):
        for sign in SIGNS:
            if sign not in LETTERS:
                for text in (sign, sign + "ann", "an" + sign + "n", "ann" + sign, sign + "annab", "annab" + sign):
                    self.assertIs(is_name(text), False, text)

    def test_what_is_no_name(self):
        for thing in no_names():
            self.assertIs(is_name(thing), False, thing)


class IsWords(unittest.TestCase):
    def test_texts_of_one_to_sixty_signs_are_words(self):
        for length in range(1, 61):
            self.assertIs(is_words("x" * length), True, length)

    def test_no_other_length_is_words(self):
        for length in (0, 61, 62, 100):
            self.assertIs(is_words("x" * length), False, length)

    def test_any_sign_may_stand_in_words(self):
        for sign in SIGNS:
            for text in (sign, sign + "x", "x" + sign, "x" + sign + "x", sign * 60):
                self.assertIs(is_words(text), True, text)
            self.assertIs(is_words(sign * 61), False, sign)
        self.assertIs(is_words(SIGNS[:60]), True)
        self.assertIs(is_words(SIGNS[-60:]), True)

    def test_what_is_no_text_is_no_words(self):
        for thing in no_texts():
            self.assertIs(is_words(thing), False, thing)
        self.assertIs(is_words(["hello there"]), False)
        self.assertIs(is_words(("hello there",)), False)


class Called(unittest.TestCase):
    def tells(self, words, names):
        told = called(words)
        self.assertIsInstance(told, tuple)
        self.assertEqual(told, names, words)

    def test_nobody_is_called(self):
        for words in ("hello", "ann", "hello ann", " ", "      ", "x" * 60, SIGNS[:60]):
            self.tells(words, ())

    def test_one_is_called(self):
        for words in ("@ann", "hello @ann", "@ann hello", "say @ann now", "@ann @ann", "ann @ann ann"):
            self.tells(words, ("ann",))

    def test_names_of_one_and_of_six_letters_are_called(self):
        self.tells("@a", ("a",))
        self.tells("@z @abcdef", ("abcdef", "z"))

    def test_several_are_told_rising_and_each_once(self):
        self.tells("@cid @ann @bob", ("ann", "bob", "cid"))
        self.tells("@bob @ann @bob @ann @bob", ("ann", "bob"))
        self.tells("@b @ab @a @ba @aa", ("a", "aa", "ab", "b", "ba"))
        self.tells("@zoe, @zoe and @eve; @ann", ("ann", "zoe"))

    def test_parts_that_are_no_calls(self):
        for part in ("@", "@@", "@@ann", "a@ann", "@ann,", "@Ann", "@annabel", "@ann@bob", "@an1", "@1", "ann@",
                     "(@ann)", "@ann.", "@-", "\"@ann\"", "@ANN", "@an_n"):
            self.tells(part, ())
            self.tells("hello " + part + " there", ())
            self.tells("@bob " + part, ("bob",))
            self.tells(part + " @bob", ("bob",))

    def test_a_blank_behind_the_sign_parts_it_from_the_name(self):
        self.tells("@ ann", ())
        self.tells("@ @ann", ("ann",))

    def test_blanks_ahead_behind_and_many(self):
        self.tells(" @ann", ("ann",))
        self.tells("@ann ", ("ann",))
        self.tells("   @bob    @ann   ", ("ann", "bob"))


class AskedAgain(unittest.TestCase):
    def test_the_same_is_told_and_nothing_is_changed(self):
        for thing in no_names() + ["ann", "hello there"]:
            before = copy.deepcopy(thing)
            self.assertIs(is_name(thing), is_name(thing))
            self.assertIs(is_words(thing), is_words(thing))
            self.assertEqual(thing, before)
        self.assertEqual(called("@bob @ann"), ("ann", "bob"))
        self.assertEqual(called("@cid"), ("cid",))
        self.assertEqual(called("@bob @ann"), ("ann", "bob"))


if __name__ == "__main__":
    unittest.main()
