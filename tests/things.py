"""What the tests share: things of all kinds to hand in, halls to do things in, a second telling of the document's
sentences over rows, and walks of deeds that are drawn by a seed, so that each run walks the same ones."""

import copy
import random
import unittest

from talkhall.errors import Barred, Known, NoPerson, NoRight, NoRoom, NoRow, NotAsked, NotIn, TalkError
from talkhall.halls import Hall

WHATS = ("door", "voice", "past")
ROLES = ("guest", "speaker", "keeper", "owner")
SETTINGS = {"door": ("open", "asked"), "voice": ("all", "some"), "past": ("shown", "hidden")}
PEOPLE = ("ann", "bob", "cid", "dan")
ROOMS = ("den", "pit")
WORDS = ("hello", "@ann", "@bob hi", "so @cid @dan", "well")


def deep(kind, inner, depth=30):
    thing = inner
    for turn in range(depth):
        thing = kind([thing])
    return thing


def no_texts():
    return [
        0, 1, -1, 7, 10 ** 30, True, False, None,
        [], (), ["ann"], ("ann",), [["ann"]], (("ann",),), ["a", "n"], ("a", "n"), [1, None, True], (None, "ann"),
        deep(list, "ann"), deep(tuple, "ann"), deep(list, deep(tuple, 1, 15), 15),
    ]


def no_names():
    return ["", "annabel", "abcdefghijkl", "Ann", "aNn", "anN", "ANN", "1ann", "a1n", "ann1", "7", " ann", "a nn",
            "ann ", " ", "@ann", "a-n", "ann,", "_", "an_n", "~", "`a", "a{", "ann\n"] + no_texts()


def hall_of(*names):
    hall = Hall()
    for name in names:
        hall.come(name)
    return hall


def told_of_room(hall, room):
    settings = tuple(hall.setting(room, what) for what in WHATS)
    persons = tuple((name, hall.role_of(room, name), hall.sees(room, name), hall.view(room, name),
                     hall.calls(room, name), hall.unread(name, room)) for name in hall.people())
    return (room, hall.roles(room), settings, hall.barred(room), hall.asked(room), hall.rows(room), persons)


def told_of_hands(hall):
    """What all hands would be told next, asked of a copy, since asking is a deed; and how many there are."""
    other = copy.deepcopy(hall)
    if not other.people():
        return ()
    count = other.hand(other.people()[0])
    return tuple((hand, room, other.tell(hand, room, 10 ** 6)) for hand in range(count) for room in other.rooms())


def told_of(hall):
    """All that a hall tells."""
    return (hall.people(), tuple(told_of_room(hall, room) for room in hall.rooms()), told_of_hands(hall))


def refusal_of(deed, *things):
    """The class of the error by which the deed is refused, or None, and what it told."""
    try:
        return None, deed(*things)
    except TalkError as error:
        return type(error), None


class HallCase(unittest.TestCase):
    """A hall of five people and one room, `den`, that ann founded; bob, cid and dan are in it, eve is not."""

    def setUp(self):
        self.hall = hall_of("ann", "bob", "cid", "dan", "eve")
        self.hall.found("ann", "den")
        for name in ("bob", "cid", "dan"):
            self.hall.enter(name, "den")
        self.hall.role("ann", "den", "bob", "keeper")
        self.hall.role("ann", "den", "cid", "speaker")

    def refuses(self, error, deed, *things):
        before = told_of(self.hall)
        self.assertIs(refusal_of(deed, *things)[0], error, things)
        self.assertEqual(told_of(self.hall), before, things)

    def writes(self, rows, deed, *things):
        """The deed tells None, and adds just these rows, told here without their numbers, to the den."""
        before = self.hall.rows("den")
        self.assertIsNone(deed(*things))
        numbered = tuple((len(before) + place,) + row for place, row in enumerate(rows, 1))
        self.assertEqual(self.hall.rows("den"), before + numbered)


class Facts:
    """What holds in a room behind these rows."""

    def __init__(self, rows):
        self.rows = rows
        self.roles, self.came, self.barred, self.asked = {}, {}, set(), set()
        self.settings = {what: SETTINGS[what][0] for what in SETTINGS}
        self.seen = {}
        for row in rows:
            self.take(row)

    def take(self, row):
        number, who, word, parts = row[0], row[1], row[2], row[3:]
        if word in ("found", "enter"):
            self.roles[who] = "owner" if word == "found" else "guest"
            self.came[who] = number
            self.asked.discard(who)
            if self.settings["past"] == "shown":
                self.seen.setdefault(who, set()).update(range(1, number))
        for name in self.roles:
            self.seen.setdefault(name, set()).add(number)
        if word == "leave":
            del self.roles[who]
        if word in ("out", "bar"):
            self.roles.pop(parts[0], None)
        if word == "bar":
            self.barred.add(parts[0])
        if word == "unbar":
            self.barred.remove(parts[0])
        if word == "ask":
            self.asked.add(parts[0])
        if word == "set":
            self.settings[parts[0]] = parts[1]
        if word == "role":
            self.roles[parts[0]] = parts[1]

    def level(self, who):
        return ROLES.index(self.roles[who]) if who in self.roles else -1

    def sees(self, who):
        return tuple(sorted(self.seen.get(who, ())))

    def sees_say(self, who, number):
        return number in self.seen.get(who, ()) and self.rows[number - 1][2] == "say"

    def view(self, who):
        seen = self.seen.get(who, set())
        told = []
        for row in self.rows:
            if row[2] == "say" and row[0] in seen:
                later = [other for other in self.rows if other[0] in seen and other[2] in ("mend", "gone")
                         and other[3] == row[0]]
                words = row[3] if not later else later[-1][4] if later[-1][2] == "mend" else None
                told.append((row[0], row[1], words, row[4] if row[4] in seen else None))
        return tuple(told)

    def heir(self):
        if not self.roles or "owner" in self.roles.values():
            return None
        return sorted(self.roles, key=lambda name: (-self.level(name), self.came[name]))[0]


def may_give(facts, who, whom, role):
    low = max(facts.level(whom), ROLES.index(role)) <= 1
    return facts.level(who) == 3 or facts.level(who) == 2 and low


def wrong_say(facts, who, number):
    return not facts.sees_say(who, number) or any(row[2] == "gone" and row[3] == number for row in facts.rows)


def said_by(facts, number):
    return facts.rows[number - 1][1]


def no_keeper(facts, who):
    return facts.level(who) < 2


def no_lesser(facts, who, whom):
    return no_keeper(facts, who) or whom in facts.roles and facts.level(whom) >= facts.level(who)


# For each deed, its refusals in the order in which they are told, behind those for people and rooms.
REFUSALS = {
    "enter": lambda f, who: [
        (Known, lambda: who in f.roles), (Barred, lambda: who in f.barred),
        (NotAsked, lambda: f.settings["door"] == "asked" and who not in f.asked)],
    "leave": lambda f, who: [(NotIn, lambda: who not in f.roles)],
    "arrange": lambda f, who, what, value: [(NotIn, lambda: who not in f.roles), (NoRight, lambda: no_keeper(f, who))],
    "ask": lambda f, who, whom: [
        (NotIn, lambda: who not in f.roles), (NoRight, lambda: no_keeper(f, who)), (Known, lambda: whom in f.roles)],
    "role": lambda f, who, whom, role: [
        (NotIn, lambda: who not in f.roles), (NotIn, lambda: whom not in f.roles),
        (NoRight, lambda: not may_give(f, who, whom, role)), (Known, lambda: f.roles[whom] == role)],
    "out": lambda f, who, whom: [
        (NotIn, lambda: who not in f.roles), (NotIn, lambda: whom not in f.roles),
        (NoRight, lambda: no_lesser(f, who, whom))],
    "bar": lambda f, who, whom: [
        (NotIn, lambda: who not in f.roles), (NoRight, lambda: no_lesser(f, who, whom)),
        (Known, lambda: whom in f.barred)],
    "unbar": lambda f, who, whom: [
        (NotIn, lambda: who not in f.roles), (NoRight, lambda: no_keeper(f, who)),
        (Known, lambda: whom not in f.barred)],
    "say": lambda f, who, words, answer: [
        (NotIn, lambda: who not in f.roles),
        (NoRight, lambda: f.settings["voice"] == "some" and f.roles[who] == "guest"),
        (NoRow, lambda: answer is not None and not f.sees_say(who, answer))],
    "mend": lambda f, who, number, words: [
        (NotIn, lambda: who not in f.roles), (NoRow, lambda: wrong_say(f, who, number)),
        (NoRight, lambda: said_by(f, number) != who)],
    "take_back": lambda f, who, number: [
        (NotIn, lambda: who not in f.roles), (NoRow, lambda: wrong_say(f, who, number)),
        (NoRight, lambda: said_by(f, number) != who and no_keeper(f, who))],
}
ROW_WORDS = {"arrange": "set", "take_back": "gone"}
WITH_WHOM = ("ask", "role", "out", "bar", "unbar")


def first_refusal(hall, deed, who, room, things):
    people = (who, things[0]) if deed in WITH_WHOM else (who,)
    if any(name not in hall.people() for name in people):
        return NoPerson
    if deed == "found":
        return Known if room in hall.rooms() else None
    if room not in hall.rooms():
        return NoRoom
    facts = Facts(hall.rows(room))
    for error, holds in REFUSALS[deed](facts, who, *things):
        if holds():
            return error
    return None


def rows_behind(rows, deed, who, things):
    """The rows as they are when the deed is done, with the owner that comes by itself."""
    after = rows + ((len(rows) + 1, who, ROW_WORDS.get(deed, deed)) + things,)
    heir = Facts(after).heir()
    return after if heir is None else after + ((len(after) + 1, heir, "role", heir, "owner"),)


class Walk:
    def __init__(self, seed):
        self.dice = random.Random(seed)
        self.hall = Hall()
        for name in PEOPLE:
            self.hall.come(name)

    def name(self):
        return "zed" if self.dice.random() < 0.02 else self.dice.choice(PEOPLE)

    def room(self):
        return "nook" if self.dice.random() < 0.02 else self.dice.choice(ROOMS)

    def number(self, room):
        rows = self.hall.rows(room) if room in self.hall.rooms() else ()
        says = [row[0] for row in rows if row[2] == "say"]
        if says and self.dice.random() < 0.8:
            return self.dice.choice(says)
        return self.dice.randint(-3, len(rows) + 3)

    def words(self):
        return self.dice.choice(WORDS)

    def setting(self):
        what = self.dice.choice(("door", "voice", "past", "past"))
        # An asked door of a room that nobody is in any more would end the walk.
        return what, self.dice.choice(SETTINGS[what] + ("open",) * 2 if what == "door" else SETTINGS[what])

    def draw(self):
        """A deed; more often than by chance one that is not refused, so that much happens."""
        drawn = self.draw_any()
        tries = self.dice.choice((0, 10))
        while tries and first_refusal(self.hall, *drawn) is not None:
            drawn = self.draw_any()
            tries -= 1
        return drawn

    def draw_any(self):
        room = self.room() if self.dice.random() < 0.3 else "den"
        draws = {
            "found": lambda: (), "enter": lambda: (), "leave": lambda: (), "arrange": self.setting,
            "ask": lambda: (self.name(),), "out": lambda: (self.name(),), "bar": lambda: (self.name(),),
            "unbar": lambda: (self.name(),), "role": lambda: (self.name(), self.dice.choice(ROLES)),
            "say": lambda: (self.words(), self.dice.choice((None, self.number(room)))),
            "mend": lambda: (self.number(room), self.words()), "take_back": lambda: (self.number(room),),
        }
        often = ("enter", "enter", "unbar", "role", "role", "role", "say", "arrange", "arrange")
        deed = self.dice.choice(tuple(draws) + often)
        return deed, self.name(), room, draws[deed]()

    def go(self, turns):
        for turn in range(turns):
            deed, who, room, things = self.draw()
            refusal_of(getattr(self.hall, deed), who, room, *things)
