"""0.1 to 0.4 over long walks of deeds with all stages together, against what the document's sentences say of the rows."""

import copy
import unittest

from talkhall.errors import Barred, Known, NoHand, NoPerson, NoRight, NoRoom, NoRow, NotAsked, NotIn
from talkhall.lines import line_of, read_line
from talkhall.orders import lacking, order, ready, together
from talkhall.replays import is_true, told_again
from talkhall.rows import is_row
from talkhall.words import called
from things import (PEOPLE, ROOMS, ROW_WORDS, SETTINGS, WHATS, Facts, Walk, first_refusal, hall_of, refusal_of,
                    rows_behind, told_of, told_of_hands, told_of_room)

DEEDS = {word: deed for deed, word in ROW_WORDS.items()}


class Deeds(unittest.TestCase):
    def test_what_is_refused_changes_nothing_and_what_is_done_is_a_row(self):
        refusals = set()
        for seed in range(16):
            walk = Walk(seed)
            for turn in range(200):
                refusals.add(self.step(walk.hall, *walk.draw()))
        # Else the walks would show little.
        for deed, errors in (("found", {NoPerson, Known}), ("enter", {NoPerson, NoRoom, Known, Barred, NotAsked}),
                             ("leave", {NoPerson, NoRoom, NotIn}), ("arrange", {NoPerson, NoRoom, NotIn, NoRight}),
                             ("ask", {NoPerson, NoRoom, NotIn, NoRight, Known}),
                             ("role", {NoPerson, NoRoom, NotIn, NoRight, Known}),
                             ("out", {NoPerson, NoRoom, NotIn, NoRight}),
                             ("bar", {NoPerson, NoRoom, NotIn, NoRight, Known}),
                             ("unbar", {NoPerson, NoRoom, NotIn, NoRight, Known}),
                             ("say", {NoPerson, NoRoom, NotIn, NoRight, NoRow}),
                             ("mend", {NoPerson, NoRoom, NotIn, NoRight, NoRow}),
                             ("take_back", {NoPerson, NoRoom, NotIn, NoRight, NoRow})):
            self.assertEqual({error for other, error in refusals if other == deed}, errors | {None}, deed)

    def step(self, hall, deed, who, room, things):
        wanted = first_refusal(hall, deed, who, room, things)
        before = {name: told_of_room(hall, name) for name in hall.rooms()}
        rows = hall.rows(room) if room in hall.rooms() else ()
        error, told = refusal_of(getattr(hall, deed), who, room, *things)
        self.assertIs(error, wanted, (deed, who, room, things))
        after = {name: told_of_room(hall, name) for name in hall.rooms()}
        if wanted is None:
            self.assertEqual(hall.rows(room), rows_behind(rows, deed, who, things))
            self.assertEqual(told, len(rows) + 1 if deed == "say" else None)
            before.pop(room, None)
            after.pop(room)
            self.holds_in(hall, room)
        self.assertEqual(after, before)
        return deed, wanted

    def holds_in(self, hall, room):
        rows = hall.rows(room)
        facts = Facts(rows)
        self.assertTrue(all(is_row(row) for row in rows))
        self.assertEqual([row[0] for row in rows], list(range(1, len(rows) + 1)))
        self.assertEqual(hall.roles(room), tuple(sorted(facts.roles.items())))
        self.assertEqual(len({name for name, role in hall.roles(room)}), len(hall.roles(room)))
        self.assertEqual(any(role == "owner" for name, role in hall.roles(room)), hall.roles(room) != ())
        self.assertEqual(hall.barred(room), tuple(sorted(facts.barred)))
        self.assertEqual(hall.asked(room), tuple(sorted(facts.asked)))
        for what in SETTINGS:
            self.assertEqual(hall.setting(room, what), facts.settings[what])
        for who in PEOPLE:
            self.assertEqual(hall.role_of(room, who), facts.roles.get(who))
            self.assertEqual(hall.sees(room, who), facts.sees(who))
            view = facts.view(who)
            self.assertEqual(hall.view(room, who), view)
            heard = [said for said in view if said[1] != who and said[2] is not None]
            self.assertEqual(hall.calls(room, who), tuple(said[0] for said in heard if who in called(said[2])))
            self.assertEqual(hall.unread(who, room), len(heard))


class Readers(unittest.TestCase):
    def test_a_hand_is_told_just_what_its_owner_sees_each_row_once(self):
        for seed in range(30):
            walk = Walk(seed)
            hall, dice = walk.hall, walk.dice
            hall.found("ann", "den")
            hall.found("bob", "pit")
            had = {hall.hand(who): {room: [] for room in ROOMS} for who in PEOPLE + PEOPLE}
            for turn in range(150):
                walk.go(1)
                self.read(hall, dice, dice.choice(tuple(had)), dice.choice(ROOMS), had)
            for hand in had:
                for room in ROOMS:
                    self.finish(hall, (PEOPLE + PEOPLE)[hand], hand, room, had[hand][room])

    def read(self, hall, dice, hand, room, had):
        part = hall.tell(hand, room, dice.randint(1, 6))
        had[hand][room].extend(part)
        if part and dice.random() < 0.3:
            # The hand was cut off within the part, and what came behind the cut is told to be lost.
            last = dice.choice(part)[0] - dice.randint(0, 1)
            hall.lost(hand, room, last)
            had[hand][room] = [row for row in had[hand][room] if row[0] <= last]

    def finish(self, hall, owner, hand, room, had):
        part = hall.tell(hand, room, 10 ** 6)
        self.assertEqual([row[0] for row in part], sorted(row[0] for row in part))
        self.assertEqual(hall.tell(hand, room, 10 ** 6), ())
        rows = hall.rows(room)
        self.assertEqual(sorted(had + list(part)), [rows[number - 1] for number in hall.sees(room, owner)])

    def test_what_is_said_again_by_one_key_is_said_once(self):
        for seed in range(10):
            walk = Walk(seed)
            hall, dice = walk.hall, walk.dice
            hall.found("ann", "den")
            owners = PEOPLE + PEOPLE
            hands = [hall.hand(who) for who in owners]
            said = {}
            for turn in range(150):
                walk.go(1)
                hand = dice.choice(hands + [-1, len(hands)])
                self.say_once(hall, owners, hand, walk.room(), dice.choice("abcdef"), said)
            self.assertGreater(len(said), 3)

    def say_once(self, hall, owners, hand, room, key, said):
        owner = owners[hand] if 0 <= hand < len(owners) else None
        rows = hall.rows(room) if room in hall.rooms() else ()
        mark = (owner, room, key)
        wanted = NoHand if owner is None else NoRoom if room not in hall.rooms() else None
        if wanted is None and mark not in said:
            wanted = first_refusal(hall, "say", owner, room, ("again", None))
        error, told = refusal_of(hall.say_once, hand, room, key, "again")
        self.assertIs(error, wanted)
        more = ()
        if wanted is None:
            if mark not in said:
                said[mark] = len(rows) + 1
                more = ((len(rows) + 1, owner, "say", "again", None),)
            self.assertEqual(told, said[mark])
        if room in hall.rooms():
            self.assertEqual(hall.rows(room), rows + more)

    def test_reading_marks(self):
        for seed in range(10):
            walk = Walk(seed)
            hall, dice = walk.hall, walk.dice
            hall.found("ann", "den")
            marks = dict.fromkeys(PEOPLE, 0)
            for turn in range(120):
                walk.go(1)
                who, end = dice.choice(PEOPLE), len(hall.rows("den"))
                number = dice.choice((marks[who] + dice.randint(-2, 4), dice.randint(-2, end + 2)))
                wanted = None if marks[who] <= number <= end else NoRow
                self.assertEqual(refusal_of(hall.read_to, who, "den", number), (wanted, None))
                if wanted is None:
                    marks[who] = number
                for name in PEOPLE:
                    view = Facts(hall.rows("den")).view(name)
                    count = sum(said[0] > marks[name] and said[1] != name and said[2] is not None for said in view)
                    self.assertEqual(hall.unread(name, "den"), count)


def done_in_another_hall(rows):
    """A second hall, of the same people, in which the rows were done again as deeds."""
    hall = hall_of(*PEOPLE)
    done = ()
    for row in rows:
        # The owner that comes by itself was written with the deed ahead of it.
        if row[0] > len(done):
            getattr(hall, DEEDS.get(row[2], row[2]))(row[1], "den", *row[3:])
            done = hall.rows("den")
    return hall


def letters_of(hall, rows):
    """Each row as a letter of its hall: behind the row ahead of it, and behind what it answers."""
    letters = []
    for row in rows:
        behind = {(hall, row[0] - 1)} if row[0] > 1 else set()
        if row[2] == "say" and row[4] is not None:
            behind.add((hall, row[4]))
        letters.append(((hall, row[0]), tuple(sorted(behind))))
    return tuple(letters)


class AllTogether(unittest.TestCase):
    def walks(self):
        for seed in range(8):
            walk = Walk(seed)
            walk.hall.found("ann", "den")
            walk.go(150)
            yield walk.hall

    def test_rows_done_again_in_a_second_hall_tell_the_same(self):
        for hall in self.walks():
            other = done_in_another_hall(hall.rows("den"))
            self.assertEqual(told_of_room(other, "den"), told_of_room(hall, "den"))

    def test_a_room_goes_by_its_lines_into_another_hall(self):
        for hall in self.walks():
            lines = [line_of(row) for row in hall.rows("den")]
            rows = tuple(read_line(line) for line in lines)
            self.assertEqual(rows, hall.rows("den"))
            self.assertIs(is_true(rows), True)
            settings = tuple(hall.setting("den", what) for what in WHATS)
            self.assertEqual(told_again(rows), (hall.roles("den"), settings, hall.barred("den"), hall.asked("den")))
            self.assertEqual(told_of_room(done_in_another_hall(rows), "den"), told_of_room(hall, "den"))

    def test_what_hands_are_told_is_read_again_from_lines(self):
        for hall in self.walks():
            for who in PEOPLE:
                hand = hall.hand(who)
                had = []
                part = hall.tell(hand, "den", 5)
                while part:
                    had += [read_line(line_of(row)) for row in part]
                    part = hall.tell(hand, "den", 5)
                self.assertEqual(had, [hall.rows("den")[number - 1] for number in hall.sees("den", who)])

    def test_who_sees_the_same_mends_sees_the_same_words_in_one_order(self):
        for hall in self.walks():
            rows = hall.rows("den")
            told = {}
            for who in PEOPLE:
                view, seen = hall.view("den", who), hall.sees("den", who)
                self.assertEqual([said[0] for said in view], sorted(said[0] for said in view))
                for said in view:
                    later = tuple(row for row in rows if row[2] in ("mend", "gone") and row[3] == said[0]
                                  and row[0] in seen)
                    told.setdefault((said[0], later), set()).add(said[1:3])
            self.assertTrue(all(len(words) == 1 for words in told.values()))

    def test_refused_deeds_are_no_rows_of_a_room(self):
        for seed in range(4):
            walk = Walk(seed)
            walk.hall.found("ann", "den")
            for turn in range(150):
                deed, who, room, things = walk.draw_any()
                rows = walk.hall.rows("den")
                row = (len(rows) + 1, who, ROW_WORDS.get(deed, deed)) + things
                error, told = refusal_of(getattr(walk.hall, deed), who, "den", *things)
                # Of people that are not there a row may well be that of another hall.
                if error is not None and error is not NoPerson and is_row(row):
                    self.assertIs(is_true(rows + (row,)), False, rows + (row,))
                self.assertIs(is_true(walk.hall.rows("den")), True)

    def test_rows_of_several_halls_in_one_order(self):
        halls = list(self.walks())[:3]
        parts = [letters_of(place, hall.rows("den")) for place, hall in enumerate(halls)]
        first = together(together(parts[0], parts[1]), parts[2])
        again = together(parts[2][::-1], together(parts[1][::-1], parts[0]))
        self.assertEqual(first, again)
        marks = order(first)
        self.assertEqual(marks, tuple(mark for mark, behind in first))
        self.assertEqual((lacking(first), ready(first)), ((), marks))
        places = {mark: place for place, mark in enumerate(marks)}
        for mark, behind in first:
            self.assertTrue(all(places[other] < places[mark] for other in behind))


def kinds_of(thing):
    if type(thing) is tuple:
        return {tuple}.union(*map(kinds_of, thing))
    return {type(thing)}


class Told(unittest.TestCase):
    def test_all_that_is_told_is_tuples_texts_whole_numbers_and_none(self):
        walk = Walk(3)
        for turn in range(200):
            deed, who, room, things = walk.draw()
            error, told = refusal_of(getattr(walk.hall, deed), who, room, *things)
            self.assertIn(type(told), (int, type(None)))
        hands = [walk.hall.hand(who) for who in PEOPLE]
        self.assertEqual([type(hand) for hand in hands], [int] * 4)
        told = told_of(walk.hall) + (walk.hall.rooms(), walk.hall.tell(0, "den", 50))
        self.assertLessEqual(kinds_of(told), {tuple, str, int, type(None)})

    def test_asked_the_same_again_the_same_is_told(self):
        walk = Walk(5)
        walk.go(200)
        walk.hall.hand("ann")
        first = told_of(walk.hall)
        self.assertEqual(told_of(walk.hall), first)
        self.assertEqual(told_of(copy.deepcopy(walk.hall)), first)

    def test_the_same_deeds_make_the_same_hall(self):
        told = []
        for turn in range(2):
            walk = Walk(7)
            walk.go(200)
            walk.hall.hand("bob")
            told.append((told_of(walk.hall), told_of_hands(walk.hall)))
        self.assertEqual(told[0], told[1])


if __name__ == "__main__":
    unittest.main()
