"""6.1 and 0.2 (e): a room told again by its rows, and which rows are those of a room."""

import copy
import random
import unittest

from talkhall.replays import is_true, told_again
from talkhall.rows import is_row
from things import (PEOPLE, REFUSALS, ROLES, ROW_WORDS, SETTINGS, WHATS, Facts, HallCase, Walk, hall_of, refusal_of,
                    rows_behind)

DEEDS = {ROW_WORDS.get(deed, deed): deed for deed in REFUSALS}
SAY = (2, "ann", "say", "hi", None)


def as_told(hall, room):
    settings = tuple(hall.setting(room, what) for what in WHATS)
    return (hall.roles(room), settings, hall.barred(room), hall.asked(room))


def numbered(*rows):
    """Rows as told here without their numbers."""
    return tuple((number,) + row for number, row in enumerate(rows, 1))


def numbered_anew(rows):
    return tuple((number,) + row[1:] for number, row in enumerate(rows, 1))


def could_be_done(rows, row):
    """Whether the row's deed is not refused behind these rows."""
    if row[2] not in DEEDS:
        return False
    facts = Facts(rows)
    return not any(holds() for error, holds in REFUSALS[DEEDS[row[2]]](facts, row[1], *row[3:]))


def is_told_true(rows):
    """The truth of rows by the second telling of the document's sentences."""
    if rows[:1] != ((1, rows[0][1], "found"),):
        return False
    done = rows[:1]
    while len(done) < len(rows):
        row = rows[len(done)]
        if not could_be_done(done, row):
            return False
        done = rows_behind(done, DEEDS[row[2]], row[1], row[3:])
        if done != rows[:len(done)]:
            return False
    return True


def next_rows(rows, people):
    """All rows that could come next, as their form goes."""
    number = len(rows) + 1
    tails = [("found",), ("enter",), ("leave",)]
    tails += [("set", what, value) for what in WHATS for value in SETTINGS[what]]
    tails += [(word, whom) for word in ("ask", "unbar", "out", "bar") for whom in people]
    tails += [("role", whom, role) for whom in people for role in ROLES]
    tails += [("say", "hi", answer) for answer in (None,) + tuple(range(1, number + 2))]
    tails += [("mend", other, "ho") for other in range(1, number + 2)]
    tails += [("gone", other) for other in range(1, number + 2)]
    return [(number, who) + tail for who in people for tail in tails]


def done_in(hall, room, row):
    """The room's rows when the row's deed was done in a copy of the hall, or None if it is refused."""
    other = copy.deepcopy(hall)
    deed = DEEDS.get(row[2], row[2])
    error, told = refusal_of(getattr(other, deed), row[1], room, *row[3:])
    return other.rows(room) if error is None else None


class ToldAgain(HallCase):
    def test_behind_a_founding(self):
        self.assertEqual(told_again(((1, "ann", "found"),)), ((("ann", "owner"),), ("open", "all", "shown"), (), ()))

    def test_each_part(self):
        self.hall.arrange("ann", "den", "door", "asked")
        self.hall.arrange("ann", "den", "past", "hidden")
        self.hall.bar("ann", "den", "dan")
        self.hall.ask("ann", "den", "eve")
        self.assertEqual(told_again(self.hall.rows("den")), (
            (("ann", "owner"), ("bob", "keeper"), ("cid", "speaker")), ("asked", "all", "hidden"), ("dan",), ("eve",)))

    def test_names_are_told_rising(self):
        hall = hall_of("zoe", "yan", "bob", "ann")
        hall.found("zoe", "den")
        for name in ("yan", "bob", "ann"):
            hall.enter(name, "den")
            hall.bar("zoe", "den", name)
            hall.ask("zoe", "den", name)
        self.assertEqual(told_again(hall.rows("den")), (
            (("zoe", "owner"),), ("open", "all", "shown"), ("ann", "bob", "yan"), ("ann", "bob", "yan")))

    def test_the_values_of_door_voice_past_in_this_order(self):
        for door in SETTINGS["door"]:
            for voice in SETTINGS["voice"]:
                for past in SETTINGS["past"]:
                    rows = numbered(("ann", "found"), ("ann", "set", "past", past), ("ann", "set", "door", door),
                                    ("ann", "set", "voice", voice))
                    self.assertEqual(told_again(rows)[1], (door, voice, past))

    def test_a_room_that_nobody_is_in(self):
        for name in ("ann", "bob", "cid", "dan"):
            self.hall.leave(name, "den")
        self.assertEqual(told_again(self.hall.rows("den")), ((), ("open", "all", "shown"), (), ()))
        self.hall.enter("eve", "den")
        self.assertEqual(told_again(self.hall.rows("den"))[0], (("eve", "owner"),))

    def test_the_owner_that_came_by_itself(self):
        self.hall.leave("ann", "den")
        self.assertEqual(told_again(self.hall.rows("den"))[0],
                         (("bob", "owner"), ("cid", "speaker"), ("dan", "guest")))

    def test_who_entered_is_not_asked_any_more(self):
        self.hall.ask("ann", "den", "eve")
        self.assertEqual(told_again(self.hall.rows("den"))[3], ("eve",))
        self.hall.enter("eve", "den")
        self.assertEqual(told_again(self.hall.rows("den"))[3], ())

    def test_as_the_hall_tells_behind_each_deed(self):
        for seed in range(8):
            walk = Walk(seed)
            for turn in range(150):
                walk.go(1)
                for room in walk.hall.rooms():
                    rows = walk.hall.rows(room)
                    self.assertEqual(told_again(rows), as_told(walk.hall, room), rows)
                    self.assertEqual(walk.hall.rows(room), rows)

    def test_the_same_is_told_again(self):
        rows = self.hall.rows("den")
        kept = tuple(rows)
        self.assertEqual(told_again(rows), told_again(rows))
        self.assertEqual(rows, kept)


class Truth(unittest.TestCase):
    def holds(self, *rows):
        self.assertIs(is_true(numbered(*rows)), True, rows)

    def fails(self, *rows):
        self.assertIs(is_true(numbered(*rows)), False, rows)

    def test_no_rows_are_no_room(self):
        self.assertIs(is_true(()), False)

    def test_the_first_row_is_a_found(self):
        self.holds(("ann", "found"))
        self.holds(("zed", "found"))
        for row in next_rows((), ("ann", "bob")):
            self.assertIs(is_true((row,)), row[2] == "found", row)

    def test_no_other_row_is_a_found(self):
        self.fails(("ann", "found"), ("ann", "found"))
        self.fails(("ann", "found"), ("bob", "found"))
        self.fails(("ann", "found"), ("ann", "leave"), ("ann", "found"))

    def test_the_owner_by_itself_must_stand_there(self):
        start = (("ann", "found"), ("bob", "enter"), ("cid", "enter"), ("ann", "leave"))
        self.fails(*start)
        self.holds(*start, ("bob", "role", "bob", "owner"))
        self.fails(*start, ("cid", "role", "cid", "owner"))
        self.fails(*start, ("bob", "role", "bob", "keeper"))
        self.fails(*start, ("cid", "role", "bob", "owner"))
        self.fails(*start, ("bob", "say", "hi", None))
        self.fails(*start, ("bob", "say", "hi", None), ("bob", "role", "bob", "owner"))
        self.holds(*start, ("bob", "role", "bob", "owner"), ("bob", "say", "hi", None))
        self.fails(*start, ("bob", "role", "bob", "owner"), ("bob", "role", "bob", "owner"))

    def test_the_owner_by_itself_of_a_room_that_nobody_was_in(self):
        start = (("ann", "found"), ("ann", "leave"))
        self.holds(*start)
        self.fails(*start, ("bob", "enter"))
        self.holds(*start, ("bob", "enter"), ("bob", "role", "bob", "owner"))
        self.holds(*start, ("ann", "enter"), ("ann", "role", "ann", "owner"))
        self.fails(*start, ("bob", "enter"), ("cid", "enter"), ("bob", "role", "bob", "owner"))
        self.fails(*start, ("ann", "role", "ann", "owner"))
        self.fails(*start, ("bob", "role", "bob", "owner"))

    def test_the_owner_by_itself_where_none_comes(self):
        self.fails(("ann", "found"), ("ann", "role", "ann", "owner"))
        self.fails(("ann", "found"), ("bob", "enter"), ("bob", "role", "bob", "owner"))
        self.fails(("ann", "found"), ("bob", "enter"), ("ann", "role", "bob", "keeper"), ("bob", "role", "bob", "owner"))
        self.fails(("ann", "found"), ("bob", "enter"), ("bob", "leave"), ("ann", "role", "ann", "owner"))
        self.holds(("ann", "found"), ("bob", "enter"), ("ann", "role", "bob", "owner"), ("ann", "leave"))
        self.fails(("ann", "found"), ("bob", "enter"), ("ann", "role", "bob", "owner"), ("ann", "leave"),
                   ("bob", "role", "bob", "owner"))

    def test_the_last_owner_takes_a_lesser_role(self):
        for role in ("guest", "speaker", "keeper"):
            self.fails(("ann", "found"), ("ann", "role", "ann", role))
            self.holds(("ann", "found"), ("ann", "role", "ann", role), ("ann", "role", "ann", "owner"))

    def test_numbers_rise_by_one_from_one_on(self):
        rows = numbered(("ann", "found"), ("bob", "enter"), ("bob", "say", "hi", None), ("ann", "leave"),
                        ("bob", "role", "bob", "owner"))
        self.assertIs(is_true(rows), True)
        for place, row in enumerate(rows):
            for number in (1, 2, 3, 4, 5, 6, 99, 10 ** 30):
                changed = rows[:place] + ((number,) + row[1:],) + rows[place + 1:]
                self.assertIs(is_true(changed), number == row[0], changed)
        self.assertIs(is_true(rows[1:]), False)
        self.assertIs(is_true(tuple((row[0] + 1,) + row[1:] for row in rows)), False)

    def test_what_is_answered_mended_or_taken_back_is_a_say_that_is_seen(self):
        start = (("ann", "found"), ("ann", "say", "hi", None), ("ann", "set", "past", "hidden"), ("bob", "enter"),
                 ("ann", "role", "bob", "keeper"))
        self.fails(*start, ("bob", "say", "ho", 2))
        self.fails(*start, ("bob", "gone", 2))
        self.holds(*start, ("ann", "say", "ho", 2))
        self.holds(*start, ("ann", "mend", 2, "ho"))
        self.holds(*start, ("ann", "gone", 2))
        self.fails(*start, ("ann", "gone", 2), ("ann", "gone", 2))
        self.fails(*start, ("ann", "gone", 2), ("ann", "mend", 2, "ho"))
        self.holds(*start, ("ann", "gone", 2), ("ann", "say", "ho", 2))
        for number in (1, 3, 4, 5, 6, 7, 99):
            self.fails(*start, ("ann", "say", "ho", number))
            self.fails(*start, ("ann", "mend", number, "ho"))
            self.fails(*start, ("ann", "gone", number))

    def test_the_voice_and_the_door(self):
        self.fails(("ann", "found"), ("bob", "enter"), ("ann", "set", "voice", "some"), ("bob", "say", "hi", None))
        self.holds(("ann", "found"), ("bob", "enter"), ("ann", "set", "voice", "some"), ("ann", "say", "hi", None))
        self.fails(("ann", "found"), ("ann", "set", "door", "asked"), ("bob", "enter"))
        self.holds(("ann", "found"), ("ann", "set", "door", "asked"), ("ann", "ask", "bob"), ("bob", "enter"))
        self.fails(("ann", "found"), ("ann", "bar", "bob"), ("bob", "enter"))
        self.holds(("ann", "found"), ("ann", "bar", "bob"), ("ann", "unbar", "bob"), ("bob", "enter"))

    def test_what_was_said_once_is_a_say(self):
        hall = hall_of("ann")
        hall.found("ann", "den")
        hand = hall.hand("ann")
        for turn in range(2):
            hall.say_once(hand, "den", "key", "hi")
            hall.read_to("ann", "den", 2)
            hall.tell(hand, "den", 1)
            self.assertEqual(hall.rows("den"), numbered(("ann", "found"), ("ann", "say", "hi", None)))
            self.assertIs(is_true(hall.rows("den")), True)

    def test_what_a_hall_does_not_refuse_is_true(self):
        # Lengths that lie somewhat beyond their bounds are refused nowhere, so such rows are those of a room.
        hall = hall_of("annabel")
        hall.found("annabel", "longroom")
        hall.say("annabel", "longroom", "x" * 70, None)
        self.assertIs(is_true(hall.rows("longroom")), True)
        self.assertEqual(told_again(hall.rows("longroom")), as_told(hall, "longroom"))

    def test_rows_that_fit_no_word(self):
        start = ((1, "ann", "found"), SAY)
        for tail in (("set",), ("set", "door"), ("set", "door", "hidden"), ("set", "roof", "open"), ("leave", "ann"),
                     ("set", "door", "asked", "open"), ("ask",), ("ask", "bob", "bob"), ("role", "ann"),
                     ("role", "ann", "king"), ("say",), ("say", "hi"), ("say", "hi", None, None), ("mend", 2),
                     ("gone",), ("gone", 2, 2), ("sing",), ("sing", "bob"), ("sing", "bob", "hi")):
            self.assertIs(is_true(start + ((3, "ann") + tail,)), False, tail)

    def test_all_pairs_and_threes_of_rows(self):
        people = ("ann", "bob")
        hall = hall_of(*people)
        hall.found("ann", "den")
        first = hall.rows("den")
        true = {first}
        for row in next_rows(first, people):
            rows = done_in(hall, "den", row)
            if rows is not None:
                other = copy.deepcopy(hall)
                getattr(other, DEEDS.get(row[2], row[2]))(row[1], "den", *row[3:])
                true.add(rows)
                true.update(done_in(other, "den", last) for last in next_rows(rows, people))
        for row in next_rows(first, people):
            two = first + (row,)
            self.assertIs(is_true(two), two in true, two)
            for last in next_rows(two, people):
                self.assertIs(is_true(two + (last,)), two + (last,) in true, two + (last,))


class TruthOfWalks(unittest.TestCase):
    def rooms_of_walks(self, seeds, turns):
        for seed in range(seeds):
            walk = Walk(seed)
            walk.go(turns)
            for room in walk.hall.rooms():
                yield walk.hall, room, walk.hall.rows(room)

    def test_behind_each_deed(self):
        for seed in range(8):
            walk = Walk(seed)
            for turn in range(150):
                walk.go(1)
                for room in walk.hall.rooms():
                    rows = walk.hall.rows(room)
                    self.assertIs(is_true(rows), True, rows)
                    self.assertIs(is_told_true(rows), True, rows)

    def test_behind_each_row(self):
        for hall, room, rows in self.rooms_of_walks(6, 150):
            for end in range(1, len(rows) + 1):
                wanted = Facts(rows[:end]).heir() is None
                self.assertIs(is_true(rows[:end]), wanted, rows[:end])

    def test_each_row_that_could_come_next(self):
        dice = random.Random(61)
        for hall, room, rows in self.rooms_of_walks(10, 60):
            for row in dice.sample(next_rows(rows, PEOPLE), 60):
                after = done_in(hall, room, row)
                self.assertIs(is_true(rows + (row,)), after == rows + (row,), rows + (row,))
                if after is not None:
                    self.assertIs(is_true(after), True, after)

    def changed(self, rows, dice):
        """The rows with one thing changed, in every way that is told of, at one place."""
        place = dice.randrange(len(rows))
        row, head, tail = rows[place], rows[:place], rows[place + 1:]
        yield "left out", numbered_anew(head + tail)
        yield "left out", head + tail
        yield "twice", numbered_anew(head + (row, row) + tail)
        yield "twice", head + (row, row) + tail
        yield "exchanged", numbered_anew(head + tail[:1] + (row,) + tail[1:])
        yield "exchanged", head + tail[:1] + (row,) + tail[1:]
        for who in PEOPLE + ("zed",):
            yield "another", head + ((row[0], who) + row[2:],) + tail
        for other in dice.sample(next_rows(head, PEOPLE), 12):
            yield "row", head + (other,) + tail
        for other in next_rows(head, PEOPLE):
            if other[1:3] == row[1:3] or other[1] == row[1] and other[3:] == row[3:]:
                yield "part or word", head + (other,) + tail
        for number in (place, place + 2, place + 10):
            if number > 0:
                yield "number", head + ((number,) + row[1:],) + tail

    def test_rows_that_were_changed(self):
        dice = random.Random(60)
        told = set()
        for hall, room, rows in self.rooms_of_walks(10, 70):
            for turn in range(6):
                for way, changed in self.changed(rows, dice):
                    if changed:
                        self.assertTrue(all(is_row(row) for row in changed))
                        wanted = changed == numbered_anew(changed) and is_told_true(changed)
                        self.assertIs(is_true(changed), wanted, (way, changed))
                        told.add((way, wanted))
        # Else the changes would show little.
        for way in ("left out", "twice", "exchanged", "another", "row", "part or word"):
            self.assertIn((way, True), told)
            self.assertIn((way, False), told)
        self.assertIn(("number", False), told)
        self.assertNotIn(("number", True), told)

    def test_the_same_is_told_again_and_nothing_is_changed(self):
        for hall, room, rows in self.rooms_of_walks(2, 60):
            kept = copy.deepcopy(rows)
            self.assertIs(is_true(rows), is_true(rows))
            self.assertEqual(rows, kept)
            self.assertEqual(hall.rows(room), kept)


if __name__ == "__main__":
    unittest.main()
