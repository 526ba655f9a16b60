"""3.1 and 3.2: a hall, who comes; rooms, who founds, enters and leaves them."""

import unittest

from talkhall.errors import Barred, Known, NoHand, NoPerson, NoRoom, NotAsked, NotIn
from talkhall.halls import Hall
from things import HallCase, hall_of, refusal_of, told_of


class EmptyHall(unittest.TestCase):
    def test_it_has_nobody_and_no_rooms(self):
        self.assertEqual(Hall().people(), ())
        self.assertEqual(Hall().rooms(), ())

    def test_all_that_needs_somebody_is_refused(self):
        hall = Hall()
        for deed, things in ((hall.found, ("ann", "den")), (hall.enter, ("ann", "den")), (hall.hand, ("ann",)),
                             (hall.sees, ("den", "ann"))):
            self.assertIs(refusal_of(deed, *things)[0], NoPerson)
        self.assertIs(refusal_of(hall.rows, "den")[0], NoRoom)
        self.assertIs(refusal_of(hall.tell, 0, "den", 1)[0], NoHand)
        self.assertEqual(told_of(hall), told_of(Hall()))

    def test_halls_are_apart(self):
        one = hall_of("ann")
        one.found("ann", "den")
        other = hall_of("bob")
        other.found("bob", "pit")
        self.assertEqual((one.people(), one.rooms()), (("ann",), ("den",)))
        self.assertEqual((other.people(), other.rooms()), (("bob",), ("pit",)))


class Come(unittest.TestCase):
    def test_people_are_told_rising(self):
        hall = Hall()
        for name in ("dan", "ann", "zoe", "b", "abcdef"):
            self.assertIsNone(hall.come(name))
        self.assertEqual(hall.people(), ("abcdef", "ann", "b", "dan", "zoe"))
        self.assertEqual(hall.rooms(), ())

    def test_who_is_there_is_known(self):
        hall = hall_of("ann", "bob")
        self.assertIs(refusal_of(hall.come, "ann")[0], Known)
        self.assertEqual(hall.people(), ("ann", "bob"))

    def test_names_beyond_the_bounds_are_not_refused(self):
        hall = hall_of("annabel", "Ann")
        hall.found("annabel", "lounges")
        self.assertEqual(hall.people(), ("Ann", "annabel"))
        self.assertEqual(hall.roles("lounges"), (("annabel", "owner"),))


class Found(unittest.TestCase):
    def setUp(self):
        self.hall = hall_of("ann", "bob")

    def test_the_room_is_there_and_who_is_its_owner(self):
        self.assertIsNone(self.hall.found("ann", "den"))
        self.assertEqual(self.hall.rooms(), ("den",))
        self.assertEqual(self.hall.roles("den"), (("ann", "owner"),))
        self.assertEqual(self.hall.rows("den"), ((1, "ann", "found"),))
        self.assertEqual([self.hall.setting("den", what) for what in ("door", "voice", "past")],
                         ["open", "all", "shown"])
        self.assertEqual((self.hall.barred("den"), self.hall.asked("den")), ((), ()))

    def test_rooms_are_told_rising_and_are_apart(self):
        for room in ("pit", "den", "ann"):
            self.hall.found("ann", room)
        self.hall.enter("bob", "pit")
        self.hall.arrange("ann", "den", "voice", "some")
        self.assertEqual(self.hall.rooms(), ("ann", "den", "pit"))
        self.assertEqual(self.hall.roles("pit"), (("ann", "owner"), ("bob", "guest")))
        self.assertEqual(self.hall.roles("den"), (("ann", "owner"),))
        self.assertEqual(self.hall.setting("pit", "voice"), "all")
        self.assertEqual(len(self.hall.rows("ann")), 1)

    def test_a_room_that_is_there_is_known_also_if_nobody_is_in_it(self):
        self.hall.found("ann", "den")
        for who in ("ann", "bob"):
            self.assertIs(refusal_of(self.hall.found, who, "den")[0], Known)
        self.hall.leave("ann", "den")
        before = told_of(self.hall)
        for who in ("ann", "bob"):
            self.assertIs(refusal_of(self.hall.found, who, "den")[0], Known)
        self.assertEqual(told_of(self.hall), before)

    def test_who_must_be_there_ahead_of_all_else(self):
        self.hall.found("ann", "den")
        for room in ("den", "pit"):
            self.assertIs(refusal_of(self.hall.found, "eve", room)[0], NoPerson)
        self.assertEqual(self.hall.rooms(), ("den",))


class NobodyAndNowhere(HallCase):
    """zed is no person, and pit is no room."""

    def test_no_person_comes_ahead_of_no_room_and_of_all_else(self):
        hall = self.hall
        for room in ("den", "pit"):
            for deed, things in (
                    (hall.enter, ("zed", room)), (hall.leave, ("zed", room)),
                    (hall.arrange, ("zed", room, "door", "open")), (hall.say, ("zed", room, "hello", None)),
                    (hall.say, ("zed", room, "hello", 99)), (hall.mend, ("zed", room, 99, "hello")),
                    (hall.take_back, ("zed", room, 99)), (hall.role_of, (room, "zed")), (hall.sees, (room, "zed")),
                    (hall.view, (room, "zed")), (hall.calls, (room, "zed")), (hall.read_to, ("zed", room, 99)),
                    (hall.read_to, ("zed", room, 0)), (hall.unread, ("zed", room))):
                self.refuses(NoPerson, deed, *things)
        self.refuses(NoPerson, hall.hand, "zed")

    def test_whom_must_be_there_as_well(self):
        hall = self.hall
        for who, whom in (("ann", "zed"), ("zed", "ann"), ("zed", "zed"), ("eve", "zed"), ("dan", "zed")):
            for room in ("den", "pit"):
                for deed in (hall.ask, hall.out, hall.bar, hall.unbar):
                    self.refuses(NoPerson, deed, who, room, whom)
                self.refuses(NoPerson, hall.role, who, room, whom, "guest")

    def test_no_room(self):
        hall = self.hall
        for deed, things in (
                (hall.enter, ("ann", "pit")), (hall.leave, ("ann", "pit")),
                (hall.arrange, ("ann", "pit", "door", "open")), (hall.ask, ("ann", "pit", "bob")),
                (hall.role, ("ann", "pit", "bob", "guest")), (hall.out, ("ann", "pit", "bob")),
                (hall.bar, ("ann", "pit", "bob")), (hall.unbar, ("ann", "pit", "bob")),
                (hall.say, ("ann", "pit", "hello", None)), (hall.say, ("ann", "pit", "hello", 99)),
                (hall.mend, ("ann", "pit", 1, "hello")), (hall.take_back, ("ann", "pit", 1)),
                (hall.role_of, ("pit", "ann")), (hall.roles, ("pit",)), (hall.setting, ("pit", "door")),
                (hall.barred, ("pit",)), (hall.asked, ("pit",)), (hall.rows, ("pit",)), (hall.sees, ("pit", "ann")),
                (hall.view, ("pit", "ann")), (hall.calls, ("pit", "ann")), (hall.read_to, ("ann", "pit", 0)),
                (hall.read_to, ("ann", "pit", 99)), (hall.unread, ("ann", "pit"))):
            self.refuses(NoRoom, deed, *things)


class Enter(HallCase):
    def test_who_enters_is_a_guest(self):
        self.writes([("eve", "enter")], self.hall.enter, "eve", "den")
        self.assertEqual(self.hall.role_of("den", "eve"), "guest")

    def test_who_is_in_is_known(self):
        for who in ("ann", "bob", "dan"):
            self.refuses(Known, self.hall.enter, who, "den")

    def test_who_is_in_is_known_also_behind_an_asked_door(self):
        self.hall.arrange("ann", "den", "door", "asked")
        self.refuses(Known, self.hall.enter, "dan", "den")

    def test_who_is_barred(self):
        self.hall.bar("ann", "den", "eve")
        self.hall.bar("ann", "den", "dan")
        self.refuses(Barred, self.hall.enter, "eve", "den")
        self.refuses(Barred, self.hall.enter, "dan", "den")
        self.hall.unbar("ann", "den", "eve")
        self.writes([("eve", "enter")], self.hall.enter, "eve", "den")

    def test_barred_is_told_ahead_of_not_asked(self):
        self.hall.bar("ann", "den", "eve")
        self.hall.arrange("ann", "den", "door", "asked")
        self.refuses(Barred, self.hall.enter, "eve", "den")
        self.hall.ask("ann", "den", "eve")
        self.refuses(Barred, self.hall.enter, "eve", "den")
        self.hall.unbar("ann", "den", "eve")
        self.writes([("eve", "enter")], self.hall.enter, "eve", "den")

    def test_who_is_not_asked(self):
        self.hall.arrange("ann", "den", "door", "asked")
        self.refuses(NotAsked, self.hall.enter, "eve", "den")
        self.hall.ask("ann", "den", "eve")
        self.writes([("eve", "enter")], self.hall.enter, "eve", "den")

    def test_who_entered_since_must_be_asked_again(self):
        self.hall.arrange("ann", "den", "door", "asked")
        self.hall.ask("ann", "den", "eve")
        self.hall.enter("eve", "den")
        self.hall.leave("eve", "den")
        self.refuses(NotAsked, self.hall.enter, "eve", "den")
        self.hall.ask("bob", "den", "eve")
        self.writes([("eve", "enter")], self.hall.enter, "eve", "den")

    def test_who_entered_by_an_open_door_is_not_asked_any_more(self):
        self.hall.ask("ann", "den", "eve")
        self.hall.enter("eve", "den")
        self.hall.leave("eve", "den")
        self.writes([("eve", "enter")], self.hall.enter, "eve", "den")
        self.hall.leave("eve", "den")
        self.hall.arrange("ann", "den", "door", "asked")
        self.refuses(NotAsked, self.hall.enter, "eve", "den")

    def test_who_was_asked_ahead_of_the_door(self):
        self.hall.ask("ann", "den", "eve")
        self.hall.arrange("ann", "den", "door", "asked")
        self.writes([("eve", "enter")], self.hall.enter, "eve", "den")

    def test_an_asked_door_that_is_open_again(self):
        self.hall.arrange("ann", "den", "door", "asked")
        self.hall.arrange("ann", "den", "door", "open")
        self.writes([("eve", "enter")], self.hall.enter, "eve", "den")

    def test_the_door_holds_for_its_founder_and_for_an_empty_room(self):
        self.hall.arrange("ann", "den", "door", "asked")
        for who in ("ann", "bob", "cid", "dan"):
            self.hall.leave(who, "den")
        for who in ("ann", "eve"):
            self.refuses(NotAsked, self.hall.enter, who, "den")

    def test_who_comes_again_is_a_guest(self):
        self.hall.leave("bob", "den")
        self.writes([("bob", "enter")], self.hall.enter, "bob", "den")
        self.assertEqual(self.hall.role_of("den", "bob"), "guest")


class Leave(HallCase):
    def test_who_leaves_is_not_in_it(self):
        self.writes([("dan", "leave")], self.hall.leave, "dan", "den")
        self.assertIsNone(self.hall.role_of("den", "dan"))
        self.assertEqual(self.hall.roles("den"), (("ann", "owner"), ("bob", "keeper"), ("cid", "speaker")))

    def test_who_is_not_in_it(self):
        self.refuses(NotIn, self.hall.leave, "eve", "den")
        self.hall.leave("dan", "den")
        self.refuses(NotIn, self.hall.leave, "dan", "den")
        self.hall.bar("ann", "den", "cid")
        self.refuses(NotIn, self.hall.leave, "cid", "den")


if __name__ == "__main__":
    unittest.main()
