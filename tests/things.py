"""Things of all kinds that the tests hand in, and what the tests of halls share."""

import copy
import unittest

from talkhall.errors import TalkError
from talkhall.halls import Hall

WHATS = ("door", "voice", "past")


def deep(kind, inner, depth=30):
    thing = inner
    for turn in range(depth):
        thing = kind([thing])
    return thing


def no_texts():
    return [
        0, 1, -1, 7, 10 ** 30, True, False, None,
        [], (), ["ann"], ("ann",), [["ann"]], (("ann",),), ["a", "n"], ("a", "n"), [1, None, True], (None, "ann"),
        deep(list, "ann"), deep(tuple, "ann"), deep(list, deep(tuple, 1, 15), 15),
    ]


def no_names():
    return ["", "annabel", "abcdefghijkl", "Ann", "aNn", "anN", "ANN", "1ann", "a1n", "ann1", "7", " ann", "a nn",
            "ann ", " ", "@ann", "a-n", "ann,", "_", "an_n", "~", "`a", "a{", "ann\n"] + no_texts()


def hall_of(*names):
    hall = Hall()
    for name in names:
        hall.come(name)
    return hall


def told_of_room(hall, room):
    settings = tuple(hall.setting(room, what) for what in WHATS)
    persons = tuple((name, hall.role_of(room, name), hall.sees(room, name), hall.view(room, name),
                     hall.calls(room, name), hall.unread(name, room)) for name in hall.people())
    return (room, hall.roles(room), settings, hall.barred(room), hall.asked(room), hall.rows(room), persons)


def told_of_hands(hall):
    """What all hands would be told next, asked of a copy, since asking is a deed; and how many there are."""
    other = copy.deepcopy(hall)
    if not other.people():
        return ()
    count = other.hand(other.people()[0])
    return tuple((hand, room, other.tell(hand, room, 10 ** 6)) for hand in range(count) for room in other.rooms())


def told_of(hall):
    """All that a hall tells."""
    return (hall.people(), tuple(told_of_room(hall, room) for room in hall.rooms()), told_of_hands(hall))


def refusal_of(deed, *things):
    """The class of the error by which the deed is refused, or None, and what it told."""
    try:
        return None, deed(*things)
    except TalkError as error:
        return type(error), None


class HallCase(unittest.TestCase):
    """A hall of five people and one room, `den`, that ann founded; bob, cid and dan are in it, eve is not."""

    def setUp(self):
        self.hall = hall_of("ann", "bob", "cid", "dan", "eve")
        self.hall.found("ann", "den")
        for name in ("bob", "cid", "dan"):
            self.hall.enter(name, "den")
        self.hall.role("ann", "den", "bob", "keeper")
        self.hall.role("ann", "den", "cid", "speaker")

    def refuses(self, error, deed, *things):
        before = told_of(self.hall)
        self.assertIs(refusal_of(deed, *things)[0], error, things)
        self.assertEqual(told_of(self.hall), before, things)

    def writes(self, rows, deed, *things):
        """The deed tells None, and adds just these rows, told here without their numbers, to the den."""
        before = self.hall.rows("den")
        self.assertIsNone(deed(*things))
        numbered = tuple((len(before) + place,) + row for place, row in enumerate(rows, 1))
        self.assertEqual(self.hall.rows("den"), before + numbered)
