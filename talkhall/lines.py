"""Rows as lines, and lines as rows."""

from talkhall.errors import NoLine
from talkhall.rows import is_row


def digits_of(number):
    # Digit by digit, as below, since Python's own str and int refuse numbers of some thousand digits.
    digits = []
    while number > 9:
        digits.append(str(number % 10))
        number = number // 10
    digits.append(str(number))
    return "".join(reversed(digits))


def number_in(digits):
    number = 0
    for sign in digits:
        number = number * 10 + int(sign)
    return number


def are_digits(text):
    return text != "" and all(["0" <= sign <= "9" for sign in text])


def quoted(words):
    return "\"" + words.replace("\\", "\\\\").replace("\"", "\\\"") + "\""


def unquoted(text):
    return text[1:-1].replace("\\\"", "\"").replace("\\\\", "\\")


def text_of(part):
    if part is None:
        return "-"
    return part if isinstance(part, str) else digits_of(part)


def part_in(text):
    if text == "-":
        return None
    return number_in(text) if are_digits(text) else text


def texts_of(word, parts):
    if word == "say":
        return [quoted(parts[0]), text_of(parts[1])]
    if word == "mend":
        return [text_of(parts[0]), quoted(parts[1])]
    return [text_of(part) for part in parts]


def parts_in(word, text):
    # Words may hold blanks, so they are what is left when the part beside them is cut off.
    if word == "say":
        cut = text.rpartition(" ")
        return (unquoted(cut[0]), part_in(cut[2]))
    if word == "mend":
        cut = text.partition(" ")
        return (part_in(cut[0]), unquoted(cut[2]))
    return tuple([part_in(part) for part in text.split(" ")])


def line_of(row):
    return " ".join([text_of(row[0]), row[1], row[2]] + texts_of(row[2], row[3:]))


def row_in(text):
    pieces = text.split(" ", 3)
    if len(pieces) < 3:
        raise NoLine(f"too short for a line: {text!r}")
    head = (part_in(pieces[0]), pieces[1], pieces[2])
    return head if len(pieces) == 3 else head + parts_in(pieces[2], pieces[3])


def read_line(text):
    # What was cut apart loosely must tell this very text again: so nothing but a row's line is read.
    row = row_in(text)
    if not is_row(row) or line_of(row) != text:
        raise NoLine(f"the line of no row: {text!r}")
    return row
