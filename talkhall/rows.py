"""Rows: what happened in a room, a tuple (number, who, word, ...) each.

A row is told by its form alone: whether the numbers and people in it fit the other rows of a room
is not asked here.
"""

from talkhall.words import is_name, is_words

ROLES = ("guest", "speaker", "keeper", "owner")
SETTINGS = {"door": ("open", "asked"), "voice": ("all", "some"), "past": ("shown", "hidden")}

BARE_WORDS = ("found", "enter", "leave")
WHOM_WORDS = ("ask", "unbar", "out", "bar")


def is_whole(thing):
    # Truths are ints to Python, but no whole numbers here.
    return isinstance(thing, int) and not isinstance(thing, bool)


def is_number(thing):
    return is_whole(thing) and thing >= 1


def is_answer(thing):
    return thing is None or is_number(thing)


def is_setting(what, value):
    # A list can't be looked up in a dict, so what must be a text first.
    return isinstance(what, str) and what in SETTINGS and value in SETTINGS[what]


def are_two_parts(word, first, second):
    if word == "set":
        return is_setting(first, second)
    if word == "role":
        return is_name(first) and second in ROLES
    if word == "say":
        return is_words(first) and is_answer(second)
    if word == "mend":
        return is_number(first) and is_words(second)
    return False


def are_parts(word, parts):
    if word in BARE_WORDS:
        return len(parts) == 0
    if word in WHOM_WORDS:
        return len(parts) == 1 and is_name(parts[0])
    if word == "gone":
        return len(parts) == 1 and is_number(parts[0])
    return len(parts) == 2 and are_two_parts(word, parts[0], parts[1])


def is_row(thing):
    if not isinstance(thing, tuple) or len(thing) < 3:
        return False
    return is_number(thing[0]) and is_name(thing[1]) and are_parts(thing[2], thing[3:])
