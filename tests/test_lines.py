"""8.1 and 0.2 (g): rows and lines tell one another, and no other line is read."""

import re
import unittest

from talkhall.errors import NoLine
from talkhall.lines import line_of, read_line
from talkhall.rows import is_row
from things import ROLES, SETTINGS, Walk, refusal_of

SIGNS = "".join(chr(code) for code in range(ord(" "), ord("~") + 1))
GREAT = 10 ** 30 + 7

LINES = {
    (1, "ann", "found"): '1 ann found',
    (2, "b", "enter"): '2 b enter',
    (30, "abcdef", "leave"): '30 abcdef leave',
    (4, "ann", "set", "door", "open"): '4 ann set door open',
    (4, "ann", "set", "door", "asked"): '4 ann set door asked',
    (4, "ann", "set", "voice", "all"): '4 ann set voice all',
    (4, "ann", "set", "voice", "some"): '4 ann set voice some',
    (4, "ann", "set", "past", "shown"): '4 ann set past shown',
    (4, "ann", "set", "past", "hidden"): '4 ann set past hidden',
    (5, "ann", "ask", "bob"): '5 ann ask bob',
    (6, "ann", "unbar", "bob"): '6 ann unbar bob',
    (7, "ann", "role", "bob", "guest"): '7 ann role bob guest',
    (7, "ann", "role", "bob", "speaker"): '7 ann role bob speaker',
    (7, "ann", "role", "bob", "keeper"): '7 ann role bob keeper',
    (7, "ann", "role", "bob", "owner"): '7 ann role bob owner',
    (8, "ann", "out", "bob"): '8 ann out bob',
    (9, "ann", "bar", "bob"): '9 ann bar bob',
    (10, "ann", "say", "hello", None): '10 ann say "hello" -',
    (11, "ann", "say", "hello there @bob", 10): '11 ann say "hello there @bob" 10',
    (12, "ann", "mend", 10, "hello there"): '12 ann mend 10 "hello there"',
    (13, "ann", "gone", 10): '13 ann gone 10',
    (14, "ann", "say", 'a "b" c', None): '14 ann say "a \\"b\\" c" -',
    (15, "ann", "say", "a\\b", 7): '15 ann say "a\\\\b" 7',
    (16, "ann", "mend", 3, '\\"'): '16 ann mend 3 "\\\\\\""',
    (17, "ann", "say", '"', None): '17 ann say "\\"" -',
    (18, "ann", "say", "\\", None): '18 ann say "\\\\" -',
    (19, "ann", "say", " ", None): '19 ann say " " -',
    (20, "ann", "say", "-", None): '20 ann say "-" -',
    (21, "ann", "say", " - 5", 5): '21 ann say " - 5" 5',
    (22, "ann", "mend", 5, '5 "'): '22 ann mend 5 "5 \\""',
    (GREAT, "say", "say", "say", GREAT): f'{GREAT} say say "say" {GREAT}',
    (GREAT, "mend", "mend", GREAT, "mend"): f'{GREAT} mend mend {GREAT} "mend"',
    (GREAT, "gone", "gone", GREAT): f'{GREAT} gone gone {GREAT}',
    (23, "found", "bar", "leave"): '23 found bar leave',
}

NUMBER, NAME = "[1-9][0-9]*", "[a-z]{1,6}"
QUOTED = r'"(?:[ !#-\[\]-~]|\\["\\]){1,60}"'
SET = "|".join(f"{what} (?:{'|'.join(SETTINGS[what])})" for what in SETTINGS)
# The document's sentences on rows and lines as one pattern.
LINE = re.compile(
    f"{NUMBER} {NAME} (?:found|enter|leave|set (?:{SET})|(?:ask|unbar|out|bar) {NAME}|role {NAME} (?:{'|'.join(ROLES)})"
    f"|say {QUOTED} (?:-|{NUMBER})|mend {NUMBER} {QUOTED}|gone {NUMBER})")


class LineCase(unittest.TestCase):
    def tell_one_another(self, row):
        line = line_of(row)
        self.assertIs(type(line), str)
        self.assertEqual(read_line(line), row)
        self.assertIs(type(read_line(line)), tuple)

    def refuses(self, text):
        self.assertEqual(refusal_of(read_line, text), (NoLine, None), text)

    def is_read_if_it_is_a_line(self, text):
        error, row = refusal_of(read_line, text)
        if LINE.fullmatch(text):
            self.assertIsNone(error, text)
            self.assertTrue(is_row(row), text)
            self.assertEqual(line_of(row), text)
        else:
            self.assertIs(error, NoLine, text)


class OfRows(LineCase):
    def test_a_line_of_each_word(self):
        for row, line in LINES.items():
            self.assertTrue(is_row(row), row)
            self.assertEqual(line_of(row), line)
            self.assertEqual(read_line(line), row)
            self.assertTrue(LINE.fullmatch(line), line)

    def test_each_sign_in_words(self):
        for sign in SIGNS:
            told = "\\" + sign if sign in '"\\' else sign
            for ahead, behind in (("", ""), ("a", ""), ("", "b"), (" ", " "), ("a", "b")):
                words, inner = ahead + sign + behind, ahead + told + behind
                self.assertEqual(line_of((1, "ann", "say", words, None)), f'1 ann say "{inner}" -')
                self.assertEqual(line_of((2, "ann", "mend", 1, words)), f'2 ann mend 1 "{inner}"')
                self.tell_one_another((1, "ann", "say", words, None))
                self.tell_one_another((3, "ann", "say", words, 2))
                self.tell_one_another((2, "ann", "mend", 1, words))

    def test_two_signs_that_could_be_taken_for_others(self):
        hard = '"\\ -1na'
        for first in hard:
            for second in hard:
                for third in hard:
                    words = first + second + third
                    self.tell_one_another((1, "ann", "say", words, None))
                    self.tell_one_another((1, "ann", "say", words, 1))
                    self.tell_one_another((1, "ann", "mend", 1, words))

    def test_words_of_sixty_signs(self):
        for sign in 'x "\\':
            words = sign * 60
            self.tell_one_another((1, "ann", "say", words, None))
            self.tell_one_another((1, "ann", "mend", 1, words))

    def test_great_numbers(self):
        for number in (9, 10, 99, 100, 101, 10 ** 18 - 1, 10 ** 18, 10 ** 18 + 5, 10 ** 36, GREAT, 10 ** 100 + 1):
            self.assertEqual(line_of((number, "ann", "found")), f"{number} ann found")
            self.tell_one_another((number, "ann", "found"))
            self.tell_one_another((number, "ann", "say", "hi", number))
            self.tell_one_another((number, "ann", "mend", number, "hi"))
            self.tell_one_another((number, "ann", "gone", number))

    def test_numbers_that_python_itself_does_not_write(self):
        self.assertEqual(line_of((10 ** 5000, "ann", "found")), "1" + "0" * 5000 + " ann found")
        self.assertEqual(read_line("1" + "0" * 5000 + " ann found"), (10 ** 5000, "ann", "found"))

    def test_rows_of_halls(self):
        for seed in range(4):
            walk = Walk(seed)
            walk.go(200)
            for room in walk.hall.rooms():
                for row in walk.hall.rows(room):
                    self.tell_one_another(row)
                    self.assertTrue(LINE.fullmatch(line_of(row)))

    def test_no_two_rows_have_one_line(self):
        self.assertEqual(len({line_of(row) for row in LINES}), len(LINES))

    def test_the_same_is_told_again(self):
        for row, line in LINES.items():
            self.assertEqual((line_of(row), read_line(line)), (line_of(row), read_line(line)))


class NoLines(LineCase):
    def test_no_text_at_all(self):
        for text in ("", " ", "  ", "   ", "1", "1 ann", "1 ann ", "1  found", " ann found", "ann found", "found", "-"):
            self.refuses(text)

    def test_blanks(self):
        for line in LINES.values():
            self.refuses(" " + line)
            self.refuses(line + " ")
            words = re.search('".*"', line)
            for place, sign in enumerate(line):
                if sign == " " and not (words and words.start() < place < words.end()):
                    self.refuses(line[:place] + " " + line[place:])
                    self.refuses(line[:place] + line[place + 1:])

    def test_numbers(self):
        for text in ("0", "00", "01", "007", "+1", "-1", "- 1", "1.0", "1.", "1_0", "1e3", "0x1", "one", "", "-", '"1"',
                     "1,", "None", "True"):
            self.refuses(f"{text} ann found")
            self.refuses(f"{text} ann say \"hi\" -")
            self.refuses(f"9 ann gone {text}")
            self.refuses(f"9 ann mend {text} \"hi\"")
            if text != "-":
                self.refuses(f"9 ann say \"hi\" {text}")

    def test_names(self):
        for text in ("", "Ann", "annabel", "a1", "1", "-", "@ann", '"ann"', "a-b", "_", "an n"):
            self.refuses(f"1 {text} found")
            self.refuses(f"1 {text} say \"hi\" -")
            for word in ("ask", "unbar", "out", "bar"):
                self.refuses(f"1 ann {word} {text}")
            self.refuses(f"1 ann role {text} owner")

    def test_words_of_rows(self):
        for word in ("", "come", "Found", "FOUND", "says", "sa", "arrange", "take", "-", "1", '"found"'):
            for tail in ("", " bob", " 1", ' "hi" -', ' 1 "hi"', " bob owner", " door open"):
                self.refuses(f"1 ann {word}{tail}")

    def test_settings_and_roles(self):
        values = [value for what in SETTINGS for value in SETTINGS[what]]
        for what in tuple(SETTINGS) + ("", "roof", "Door", "open", "-", "1", '"door"'):
            for value in values + ["", "Open", "none", "-", "1", '"open"']:
                if value not in SETTINGS.get(what, ()):
                    self.refuses(f"1 ann set {what} {value}")
        for role in ("", "king", "Owner", "owners", "-", "1", '"owner"', "open"):
            self.refuses(f"1 ann role bob {role}")

    def test_too_few_and_too_many_parts(self):
        for line in LINES.values():
            for tail in ("-", "1", "bob", "owner", '"hi"', "open", '""'):
                self.refuses(f"{line} {tail}")
            words = re.search('".*"', line)
            for place in range(len(line)):
                if line[place] == " " and not (words and words.start() < place < words.end()):
                    self.refuses(line[:place])
        self.refuses("1 ann set door")
        self.refuses("1 ann say -")
        self.refuses('1 ann say "hi"')
        self.refuses("1 ann mend 1")
        self.refuses('1 ann mend "hi"')

    def test_what_stands_between_the_quotes(self):
        for inner in ("", "x" * 61, '"', "\\", 'a"b', '"a', 'a"', "\\a", "a\\b", "a\\", "\\\\\\", '\\\\"', '""', "\\ ",
                      '\\" "', "\\n", "\\-", "\\" * 61, '\\"' * 61):
            self.refuses(f'1 ann say "{inner}" -')
            self.refuses(f'1 ann say "{inner}" 1')
            self.refuses(f'1 ann mend 1 "{inner}"')

    def test_quotes_that_are_lacking_or_others(self):
        for words in ("hi", '"hi', 'hi"', "'hi'", "`hi`", '""hi""', '"hi""', '""hi"', '"hi" "ho"', '" hi', '"'):
            self.refuses(f"1 ann say {words} -")
            self.refuses(f"1 ann say {words} 1")
            self.refuses(f"1 ann mend 1 {words}")

    def test_none_stands_for_an_answer_alone(self):
        self.refuses("- ann found")
        self.refuses("1 - found")
        self.refuses("1 ann -")
        self.refuses("1 ann ask -")
        self.refuses("1 ann set door -")
        self.refuses("1 ann role bob -")
        self.refuses("1 ann say - -")
        self.refuses('1 ann mend - "hi"')
        self.refuses("1 ann gone -")
        self.refuses('1 ann say "hi" --')

    def test_one_sign_put_in_left_out_or_changed(self):
        for line in LINES.values():
            for place in range(len(line) + 1):
                self.is_read_if_it_is_a_line(line[:place] + line[place + 1:])
                for sign in SIGNS:
                    self.is_read_if_it_is_a_line(line[:place] + sign + line[place:])
                    self.is_read_if_it_is_a_line(line[:place] + sign + line[place + 1:])

    def test_two_neighbours_exchanged_and_parts_left_out(self):
        for line in LINES.values():
            for place in range(len(line)):
                self.is_read_if_it_is_a_line(line[:place] + line[place:place + 2][::-1] + line[place + 2:])
                for end in range(place, len(line) + 1):
                    self.is_read_if_it_is_a_line(line[:place] + line[end:])

    def test_parts_of_two_lines(self):
        for one in LINES.values():
            for other in LINES.values():
                self.refuses(f"{one} {other}")
                pieces, others = one.split(" "), other.split(" ")
                for cut in range(1, 5):
                    self.is_read_if_it_is_a_line(" ".join(pieces[:cut] + others[cut:]))


if __name__ == "__main__":
    unittest.main()
