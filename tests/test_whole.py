"""0.2 (a) to (d), 0.3 and 0.4 over long walks of deeds, against what the document's sentences say of the rows.

The walks are drawn by a seed, so each run walks the same ones.
"""

import copy
import random
import unittest

from talkhall.errors import Barred, Known, NoHand, NoPerson, NoRight, NoRoom, NoRow, NotAsked, NotIn
from talkhall.halls import Hall
from talkhall.rows import is_row
from talkhall.words import called
from things import refusal_of, told_of, told_of_hands, told_of_room

ROLES = ("guest", "speaker", "keeper", "owner")
SETTINGS = {"door": ("open", "asked"), "voice": ("all", "some"), "past": ("shown", "hidden")}
PEOPLE = ("ann", "bob", "cid", "dan")
ROOMS = ("den", "pit")
WORDS = ("hello", "@ann", "@bob hi", "so @cid @dan", "well")


class Facts:
    """What holds in a room behind these rows."""

    def __init__(self, rows):
        self.rows = rows
        self.roles, self.came, self.barred, self.asked = {}, {}, set(), set()
        self.settings = {what: SETTINGS[what][0] for what in SETTINGS}
        self.seen = {}
        for row in rows:
            self.take(row)

    def take(self, row):
        number, who, word, parts = row[0], row[1], row[2], row[3:]
        if word in ("found", "enter"):
            self.roles[who] = "owner" if word == "found" else "guest"
            self.came[who] = number
            self.asked.discard(who)
            if self.settings["past"] == "shown":
                self.seen.setdefault(who, set()).update(range(1, number))
        for name in self.roles:
            self.seen.setdefault(name, set()).add(number)
        if word == "leave":
            del self.roles[who]
        if word in ("out", "bar"):
            self.roles.pop(parts[0], None)
        if word == "bar":
            self.barred.add(parts[0])
        if word == "unbar":
            self.barred.remove(parts[0])
        if word == "ask":
            self.asked.add(parts[0])
        if word == "set":
            self.settings[parts[0]] = parts[1]
        if word == "role":
            self.roles[parts[0]] = parts[1]

    def level(self, who):
        return ROLES.index(self.roles[who]) if who in self.roles else -1

    def sees(self, who):
        return tuple(sorted(self.seen.get(who, ())))

    def sees_say(self, who, number):
        return number in self.seen.get(who, ()) and self.rows[number - 1][2] == "say"

    def view(self, who):
        seen = self.seen.get(who, set())
        told = []
        for row in self.rows:
            if row[2] == "say" and row[0] in seen:
                later = [other for other in self.rows if other[0] in seen and other[2] in ("mend", "gone")
                         and other[3] == row[0]]
                words = row[3] if not later else later[-1][4] if later[-1][2] == "mend" else None
                told.append((row[0], row[1], words, row[4] if row[4] in seen else None))
        return tuple(told)

    def heir(self):
        if not self.roles or "owner" in self.roles.values():
            return None
        return sorted(self.roles, key=lambda name: (-self.level(name), self.came[name]))[0]


def may_give(facts, who, whom, role):
    low = max(facts.level(whom), ROLES.index(role)) <= 1
    return facts.level(who) == 3 or facts.level(who) == 2 and low


def wrong_say(facts, who, number):
    return not facts.sees_say(who, number) or any(row[2] == "gone" and row[3] == number for row in facts.rows)


def said_by(facts, number):
    return facts.rows[number - 1][1]


def no_keeper(facts, who):
    return facts.level(who) < 2


def no_lesser(facts, who, whom):
    return no_keeper(facts, who) or whom in facts.roles and facts.level(whom) >= facts.level(who)


# For each deed, its refusals in the order in which they are told, behind those for people and rooms.
REFUSALS = {
    "enter": lambda f, who: [
        (Known, lambda: who in f.roles), (Barred, lambda: who in f.barred),
        (NotAsked, lambda: f.settings["door"] == "asked" and who not in f.asked)],
    "leave": lambda f, who: [(NotIn, lambda: who not in f.roles)],
    "arrange": lambda f, who, what, value: [(NotIn, lambda: who not in f.roles), (NoRight, lambda: no_keeper(f, who))],
    "ask": lambda f, who, whom: [
        (NotIn, lambda: who not in f.roles), (NoRight, lambda: no_keeper(f, who)), (Known, lambda: whom in f.roles)],
    "role": lambda f, who, whom, role: [
        (NotIn, lambda: who not in f.roles), (NotIn, lambda: whom not in f.roles),
        (NoRight, lambda: not may_give(f, who, whom, role)), (Known, lambda: f.roles[whom] == role)],
    "out": lambda f, who, whom: [
        (NotIn, lambda: who not in f.roles), (NotIn, lambda: whom not in f.roles),
        (NoRight, lambda: no_lesser(f, who, whom))],
    "bar": lambda f, who, whom: [
        (NotIn, lambda: who not in f.roles), (NoRight, lambda: no_lesser(f, who, whom)),
        (Known, lambda: whom in f.barred)],
    "unbar": lambda f, who, whom: [
        (NotIn, lambda: who not in f.roles), (NoRight, lambda: no_keeper(f, who)),
        (Known, lambda: whom not in f.barred)],
    "say": lambda f, who, words, answer: [
        (NotIn, lambda: who not in f.roles),
        (NoRight, lambda: f.settings["voice"] == "some" and f.roles[who] == "guest"),
        (NoRow, lambda: answer is not None and not f.sees_say(who, answer))],
    "mend": lambda f, who, number, words: [
        (NotIn, lambda: who not in f.roles), (NoRow, lambda: wrong_say(f, who, number)),
        (NoRight, lambda: said_by(f, number) != who)],
    "take_back": lambda f, who, number: [
        (NotIn, lambda: who not in f.roles), (NoRow, lambda: wrong_say(f, who, number)),
        (NoRight, lambda: said_by(f, number) != who and no_keeper(f, who))],
}
ROW_WORDS = {"arrange": "set", "take_back": "gone"}
WITH_WHOM = ("ask", "role", "out", "bar", "unbar")


def first_refusal(hall, deed, who, room, things):
    people = (who, things[0]) if deed in WITH_WHOM else (who,)
    if any(name not in hall.people() for name in people):
        return NoPerson
    if deed == "found":
        return Known if room in hall.rooms() else None
    if room not in hall.rooms():
        return NoRoom
    facts = Facts(hall.rows(room))
    for error, holds in REFUSALS[deed](facts, who, *things):
        if holds():
            return error
    return None


def rows_behind(rows, deed, who, things):
    """The rows as they are when the deed is done, with the owner that comes by itself."""
    after = rows + ((len(rows) + 1, who, ROW_WORDS.get(deed, deed)) + things,)
    heir = Facts(after).heir()
    return after if heir is None else after + ((len(after) + 1, heir, "role", heir, "owner"),)


class Walk:
    def __init__(self, seed):
        self.dice = random.Random(seed)
        self.hall = Hall()
        for name in PEOPLE:
            self.hall.come(name)

    def name(self):
        return "zed" if self.dice.random() < 0.02 else self.dice.choice(PEOPLE)

    def room(self):
        return "nook" if self.dice.random() < 0.02 else self.dice.choice(ROOMS)

    def number(self, room):
        rows = self.hall.rows(room) if room in self.hall.rooms() else ()
        says = [row[0] for row in rows if row[2] == "say"]
        if says and self.dice.random() < 0.8:
            return self.dice.choice(says)
        return self.dice.randint(-3, len(rows) + 3)

    def words(self):
        return self.dice.choice(WORDS)

    def setting(self):
        what = self.dice.choice(("door", "voice", "past", "past"))
        # An asked door of a room that nobody is in any more would end the walk.
        return what, self.dice.choice(SETTINGS[what] + ("open",) * 2 if what == "door" else SETTINGS[what])

    def draw(self):
        """A deed; more often than by chance one that is not refused, so that much happens."""
        drawn = self.draw_any()
        tries = self.dice.choice((0, 10))
        while tries and first_refusal(self.hall, *drawn) is not None:
            drawn = self.draw_any()
            tries -= 1
        return drawn

    def draw_any(self):
        room = self.room() if self.dice.random() < 0.3 else "den"
        draws = {
            "found": lambda: (), "enter": lambda: (), "leave": lambda: (), "arrange": self.setting,
            "ask": lambda: (self.name(),), "out": lambda: (self.name(),), "bar": lambda: (self.name(),),
            "unbar": lambda: (self.name(),), "role": lambda: (self.name(), self.dice.choice(ROLES)),
            "say": lambda: (self.words(), self.dice.choice((None, self.number(room)))),
            "mend": lambda: (self.number(room), self.words()), "take_back": lambda: (self.number(room),),
        }
        often = ("enter", "enter", "unbar", "role", "role", "role", "say", "arrange", "arrange")
        deed = self.dice.choice(tuple(draws) + often)
        return deed, self.name(), room, draws[deed]()

    def go(self, turns):
        for turn in range(turns):
            deed, who, room, things = self.draw()
            refusal_of(getattr(self.hall, deed), who, room, *things)


class Deeds(unittest.TestCase):
    def test_what_is_refused_changes_nothing_and_what_is_done_is_a_row(self):
        refusals = set()
        for seed in range(16):
            walk = Walk(seed)
            for turn in range(200):
                refusals.add(self.step(walk.hall, *walk.draw()))
        # Else the walks would show little.
        for deed, errors in (("found", {NoPerson, Known}), ("enter", {NoPerson, NoRoom, Known, Barred, NotAsked}),
                             ("leave", {NoPerson, NoRoom, NotIn}), ("arrange", {NoPerson, NoRoom, NotIn, NoRight}),
                             ("ask", {NoPerson, NoRoom, NotIn, NoRight, Known}),
                             ("role", {NoPerson, NoRoom, NotIn, NoRight, Known}),
                             ("out", {NoPerson, NoRoom, NotIn, NoRight}),
                             ("bar", {NoPerson, NoRoom, NotIn, NoRight, Known}),
                             ("unbar", {NoPerson, NoRoom, NotIn, NoRight, Known}),
                             ("say", {NoPerson, NoRoom, NotIn, NoRight, NoRow}),
                             ("mend", {NoPerson, NoRoom, NotIn, NoRight, NoRow}),
                             ("take_back", {NoPerson, NoRoom, NotIn, NoRight, NoRow})):
            self.assertEqual({error for other, error in refusals if other == deed}, errors | {None}, deed)

    def step(self, hall, deed, who, room, things):
        wanted = first_refusal(hall, deed, who, room, things)
        before = {name: told_of_room(hall, name) for name in hall.rooms()}
        rows = hall.rows(room) if room in hall.rooms() else ()
        error, told = refusal_of(getattr(hall, deed), who, room, *things)
        self.assertIs(error, wanted, (deed, who, room, things))
        after = {name: told_of_room(hall, name) for name in hall.rooms()}
        if wanted is None:
            self.assertEqual(hall.rows(room), rows_behind(rows, deed, who, things))
            self.assertEqual(told, len(rows) + 1 if deed == "say" else None)
            before.pop(room, None)
            after.pop(room)
            self.holds_in(hall, room)
        self.assertEqual(after, before)
        return deed, wanted

    def holds_in(self, hall, room):
        rows = hall.rows(room)
        facts = Facts(rows)
        self.assertTrue(all(is_row(row) for row in rows))
        self.assertEqual([row[0] for row in rows], list(range(1, len(rows) + 1)))
        self.assertEqual(hall.roles(room), tuple(sorted(facts.roles.items())))
        self.assertEqual(len({name for name, role in hall.roles(room)}), len(hall.roles(room)))
        self.assertEqual(any(role == "owner" for name, role in hall.roles(room)), hall.roles(room) != ())
        self.assertEqual(hall.barred(room), tuple(sorted(facts.barred)))
        self.assertEqual(hall.asked(room), tuple(sorted(facts.asked)))
        for what in SETTINGS:
            self.assertEqual(hall.setting(room, what), facts.settings[what])
        for who in PEOPLE:
            self.assertEqual(hall.role_of(room, who), facts.roles.get(who))
            self.assertEqual(hall.sees(room, who), facts.sees(who))
            view = facts.view(who)
            self.assertEqual(hall.view(room, who), view)
            heard = [said for said in view if said[1] != who and said[2] is not None]
            self.assertEqual(hall.calls(room, who), tuple(said[0] for said in heard if who in called(said[2])))
            self.assertEqual(hall.unread(who, room), len(heard))


class Readers(unittest.TestCase):
    def test_a_hand_is_told_just_what_its_owner_sees_each_row_once(self):
        for seed in range(30):
            walk = Walk(seed)
            hall, dice = walk.hall, walk.dice
            hall.found("ann", "den")
            hall.found("bob", "pit")
            had = {hall.hand(who): {room: [] for room in ROOMS} for who in PEOPLE + PEOPLE}
            for turn in range(150):
                walk.go(1)
                self.read(hall, dice, dice.choice(tuple(had)), dice.choice(ROOMS), had)
            for hand in had:
                for room in ROOMS:
                    self.finish(hall, (PEOPLE + PEOPLE)[hand], hand, room, had[hand][room])

    def read(self, hall, dice, hand, room, had):
        part = hall.tell(hand, room, dice.randint(1, 6))
        had[hand][room].extend(part)
        if part and dice.random() < 0.3:
            # The hand was cut off within the part, and what came behind the cut is told to be lost.
            last = dice.choice(part)[0] - dice.randint(0, 1)
            hall.lost(hand, room, last)
            had[hand][room] = [row for row in had[hand][room] if row[0] <= last]

    def finish(self, hall, owner, hand, room, had):
        part = hall.tell(hand, room, 10 ** 6)
        self.assertEqual([row[0] for row in part], sorted(row[0] for row in part))
        self.assertEqual(hall.tell(hand, room, 10 ** 6), ())
        rows = hall.rows(room)
        self.assertEqual(sorted(had + list(part)), [rows[number - 1] for number in hall.sees(room, owner)])

    def test_what_is_said_again_by_one_key_is_said_once(self):
        for seed in range(10):
            walk = Walk(seed)
            hall, dice = walk.hall, walk.dice
            hall.found("ann", "den")
            owners = PEOPLE + PEOPLE
            hands = [hall.hand(who) for who in owners]
            said = {}
            for turn in range(150):
                walk.go(1)
                hand = dice.choice(hands + [-1, len(hands)])
                self.say_once(hall, owners, hand, walk.room(), dice.choice("abcdef"), said)
            self.assertGreater(len(said), 3)

    def say_once(self, hall, owners, hand, room, key, said):
        owner = owners[hand] if 0 <= hand < len(owners) else None
        rows = hall.rows(room) if room in hall.rooms() else ()
        mark = (owner, room, key)
        wanted = NoHand if owner is None else NoRoom if room not in hall.rooms() else None
        if wanted is None and mark not in said:
            wanted = first_refusal(hall, "say", owner, room, ("again", None))
        error, told = refusal_of(hall.say_once, hand, room, key, "again")
        self.assertIs(error, wanted)
        more = ()
        if wanted is None:
            if mark not in said:
                said[mark] = len(rows) + 1
                more = ((len(rows) + 1, owner, "say", "again", None),)
            self.assertEqual(told, said[mark])
        if room in hall.rooms():
            self.assertEqual(hall.rows(room), rows + more)

    def test_reading_marks(self):
        for seed in range(10):
            walk = Walk(seed)
            hall, dice = walk.hall, walk.dice
            hall.found("ann", "den")
            marks = dict.fromkeys(PEOPLE, 0)
            for turn in range(120):
                walk.go(1)
                who, end = dice.choice(PEOPLE), len(hall.rows("den"))
                number = dice.choice((marks[who] + dice.randint(-2, 4), dice.randint(-2, end + 2)))
                wanted = None if marks[who] <= number <= end else NoRow
                self.assertEqual(refusal_of(hall.read_to, who, "den", number), (wanted, None))
                if wanted is None:
                    marks[who] = number
                for name in PEOPLE:
                    view = Facts(hall.rows("den")).view(name)
                    count = sum(said[0] > marks[name] and said[1] != name and said[2] is not None for said in view)
                    self.assertEqual(hall.unread(name, "den"), count)


def kinds_of(thing):
    if type(thing) is tuple:
        return {tuple}.union(*map(kinds_of, thing))
    return {type(thing)}


class Told(unittest.TestCase):
    def test_all_that_is_told_is_tuples_texts_whole_numbers_and_none(self):
        walk = Walk(3)
        for turn in range(200):
            deed, who, room, things = walk.draw()
            error, told = refusal_of(getattr(walk.hall, deed), who, room, *things)
            self.assertIn(type(told), (int, type(None)))
        hands = [walk.hall.hand(who) for who in PEOPLE]
        self.assertEqual([type(hand) for hand in hands], [int] * 4)
        told = told_of(walk.hall) + (walk.hall.rooms(), walk.hall.tell(0, "den", 50))
        self.assertLessEqual(kinds_of(told), {tuple, str, int, type(None)})

    def test_asked_the_same_again_the_same_is_told(self):
        walk = Walk(5)
        walk.go(200)
        walk.hall.hand("ann")
        first = told_of(walk.hall)
        self.assertEqual(told_of(walk.hall), first)
        self.assertEqual(told_of(copy.deepcopy(walk.hall)), first)

    def test_the_same_deeds_make_the_same_hall(self):
        told = []
        for turn in range(2):
            walk = Walk(7)
            walk.go(200)
            walk.hall.hand("bob")
            told.append((told_of(walk.hall), told_of_hands(walk.hall)))
        self.assertEqual(told[0], told[1])


if __name__ == "__main__":
    unittest.main()
