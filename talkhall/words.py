"""Names of people and rooms, words that are said, and the names that are called in them."""

MOST_LETTERS = 6
MOST_SIGNS = 60


def is_letter(sign):
    return "a" <= sign <= "z"


def is_name(thing):
    if not isinstance(thing, str):
        return False
    return 1 <= len(thing) <= MOST_LETTERS and all([is_letter(sign) for sign in thing])


def is_words(thing):
    return isinstance(thing, str) and 1 <= len(thing) <= MOST_SIGNS


def is_call(part):
    return part.startswith("@") and is_name(part[1:])


def called(words):
    names = [part[1:] for part in words.split(" ") if is_call(part)]
    return tuple(sorted(set(names)))
