"""3.5: what a room tells of itself, and the owner that comes by itself."""

import unittest

from things import HallCase, hall_of, told_of


class Tells(HallCase):
    def test_role_of(self):
        self.assertEqual([self.hall.role_of("den", name) for name in self.hall.people()],
                         ["owner", "keeper", "speaker", "guest", None])

    def test_roles_are_told_rising_by_name(self):
        hall = hall_of("zoe", "bob", "ann")
        hall.found("zoe", "den")
        for name in ("bob", "ann"):
            hall.enter(name, "den")
        self.assertEqual(hall.roles("den"), (("ann", "guest"), ("bob", "guest"), ("zoe", "owner")))

    def test_nobody_in_it(self):
        for name in ("ann", "bob", "cid", "dan"):
            self.hall.leave(name, "den")
        self.assertEqual(self.hall.roles("den"), ())
        self.assertEqual(self.hall.rooms(), ("den",))

    def test_barred_and_asked_are_told_rising(self):
        for name in ("eve", "cid", "dan"):
            self.hall.bar("ann", "den", name)
            self.hall.ask("ann", "den", name)
        self.assertEqual(self.hall.barred("den"), ("cid", "dan", "eve"))
        self.assertEqual(self.hall.asked("den"), ("cid", "dan", "eve"))
        self.hall.unbar("ann", "den", "dan")
        self.assertEqual(self.hall.asked("den"), ("cid", "dan", "eve"))
        self.hall.enter("dan", "den")
        self.assertEqual(self.hall.barred("den"), ("cid", "eve"))
        self.assertEqual(self.hall.asked("den"), ("cid", "eve"))

    def test_who_leaves_or_is_put_out_is_not_asked_by_it(self):
        self.hall.leave("dan", "den")
        self.hall.out("ann", "den", "cid")
        self.assertEqual(self.hall.asked("den"), ())

    def test_all_rows_in_order(self):
        hall = hall_of("ann", "bob", "cid")
        hall.found("ann", "den")
        hall.enter("bob", "den")
        hall.role("ann", "den", "bob", "keeper")
        hall.arrange("bob", "den", "door", "asked")
        hall.ask("bob", "den", "cid")
        hall.enter("cid", "den")
        hall.say("cid", "den", "hi", None)
        hall.say("ann", "den", "hi @cid", 7)
        hall.mend("cid", "den", 7, "hello")
        hall.take_back("bob", "den", 7)
        hall.out("bob", "den", "cid")
        hall.bar("ann", "den", "cid")
        hall.unbar("ann", "den", "cid")
        hall.leave("bob", "den")
        self.assertEqual(hall.rows("den"), (
            (1, "ann", "found"), (2, "bob", "enter"), (3, "ann", "role", "bob", "keeper"),
            (4, "bob", "set", "door", "asked"), (5, "bob", "ask", "cid"), (6, "cid", "enter"),
            (7, "cid", "say", "hi", None), (8, "ann", "say", "hi @cid", 7), (9, "cid", "mend", 7, "hello"),
            (10, "bob", "gone", 7), (11, "bob", "out", "cid"), (12, "ann", "bar", "cid"), (13, "ann", "unbar", "cid"),
            (14, "bob", "leave")))

    def test_what_was_told_does_not_change_by_later_deeds(self):
        rows, roles, asked = self.hall.rows("den"), self.hall.roles("den"), self.hall.asked("den")
        kept = (tuple(rows), tuple(roles), tuple(asked))
        self.hall.ask("ann", "den", "eve")
        self.hall.leave("dan", "den")
        self.assertEqual((rows, roles, asked), kept)

    def test_to_be_told_is_no_deed(self):
        before = told_of(self.hall)
        for turn in range(3):
            self.assertEqual(told_of(self.hall), before)


class OwnerByItself(HallCase):
    def test_the_greatest_role_when_the_owner_leaves(self):
        self.writes([("ann", "leave"), ("bob", "role", "bob", "owner")], self.hall.leave, "ann", "den")
        self.assertEqual(self.hall.roles("den"), (("bob", "owner"), ("cid", "speaker"), ("dan", "guest")))

    def test_down_to_the_last_one(self):
        self.hall.leave("ann", "den")
        self.writes([("bob", "leave"), ("cid", "role", "cid", "owner")], self.hall.leave, "bob", "den")
        self.writes([("cid", "leave"), ("dan", "role", "dan", "owner")], self.hall.leave, "cid", "den")
        self.writes([("dan", "leave")], self.hall.leave, "dan", "den")

    def test_no_row_more_where_an_owner_is_left(self):
        self.hall.role("ann", "den", "dan", "owner")
        self.writes([("ann", "leave")], self.hall.leave, "ann", "den")
        self.assertEqual(self.hall.roles("den"), (("bob", "keeper"), ("cid", "speaker"), ("dan", "owner")))

    def test_no_row_more_where_another_leaves(self):
        for who in ("bob", "cid", "dan"):
            self.writes([(who, "leave")], self.hall.leave, who, "den")

    def test_of_like_roles_who_came_first(self):
        hall = hall_of("zoe", "ann", "bob", "yan")
        hall.found("zoe", "den")
        for name in ("yan", "bob", "ann"):
            hall.enter(name, "den")
        hall.leave("zoe", "den")
        self.assertEqual(hall.rows("den")[-2:], ((5, "zoe", "leave"), (6, "yan", "role", "yan", "owner")))

    def test_of_like_roles_the_last_entry_counts(self):
        self.hall.leave("bob", "den")
        self.hall.enter("bob", "den")
        self.hall.role("ann", "den", "bob", "speaker")
        self.hall.role("ann", "den", "dan", "speaker")
        self.writes([("ann", "leave"), ("cid", "role", "cid", "owner")], self.hall.leave, "ann", "den")
        self.writes([("cid", "leave"), ("dan", "role", "dan", "owner")], self.hall.leave, "cid", "den")
        self.assertEqual(self.hall.roles("den"), (("bob", "speaker"), ("dan", "owner")))

    def test_when_a_role_was_given_does_not_count(self):
        self.hall.role("ann", "den", "dan", "keeper")
        self.hall.role("ann", "den", "bob", "guest")
        self.hall.role("ann", "den", "bob", "keeper")
        self.writes([("ann", "leave"), ("bob", "role", "bob", "owner")], self.hall.leave, "ann", "den")

    def test_the_found_row_counts_like_an_enter(self):
        self.writes([("ann", "role", "ann", "keeper"), ("ann", "role", "ann", "owner")],
                    self.hall.role, "ann", "den", "ann", "keeper")

    def test_the_last_owner_takes_a_lesser_role(self):
        self.writes([("ann", "role", "ann", "guest"), ("bob", "role", "bob", "owner")],
                    self.hall.role, "ann", "den", "ann", "guest")
        self.assertEqual(self.hall.roles("den"),
                         (("ann", "guest"), ("bob", "owner"), ("cid", "speaker"), ("dan", "guest")))

    def test_the_last_owner_is_alone_and_takes_a_lesser_role(self):
        hall = hall_of("ann")
        hall.found("ann", "den")
        hall.role("ann", "den", "ann", "guest")
        self.assertEqual(hall.rows("den")[1:], ((2, "ann", "role", "ann", "guest"), (3, "ann", "role", "ann", "owner")))
        self.assertEqual(hall.roles("den"), (("ann", "owner"),))

    def test_one_of_two_owners_takes_a_lesser_role(self):
        self.hall.role("ann", "den", "dan", "owner")
        self.writes([("ann", "role", "ann", "speaker")], self.hall.role, "ann", "den", "ann", "speaker")
        self.writes([("dan", "role", "dan", "guest"), ("bob", "role", "bob", "owner")],
                    self.hall.role, "dan", "den", "dan", "guest")

    def test_who_enters_an_empty_room_is_an_owner(self):
        for name in ("ann", "bob", "cid", "dan"):
            self.hall.leave(name, "den")
        self.writes([("eve", "enter"), ("eve", "role", "eve", "owner")], self.hall.enter, "eve", "den")
        self.assertEqual(self.hall.roles("den"), (("eve", "owner"),))
        self.writes([("ann", "enter")], self.hall.enter, "ann", "den")
        self.assertEqual(self.hall.role_of("den", "ann"), "guest")

    def test_an_empty_room_keeps_its_settings_and_who_is_barred_and_asked(self):
        self.hall.arrange("ann", "den", "voice", "some")
        self.hall.bar("ann", "den", "dan")
        self.hall.ask("ann", "den", "eve")
        for name in ("ann", "bob", "cid"):
            self.hall.leave(name, "den")
        self.assertEqual((self.hall.setting("den", "voice"), self.hall.barred("den"), self.hall.asked("den")),
                         ("some", ("dan",), ("eve",)))

    def test_by_an_asked_door_into_an_empty_room(self):
        self.hall.arrange("ann", "den", "door", "asked")
        self.hall.ask("ann", "den", "eve")
        for name in ("ann", "bob", "cid", "dan"):
            self.hall.leave(name, "den")
        self.writes([("eve", "enter"), ("eve", "role", "eve", "owner")], self.hall.enter, "eve", "den")
        self.assertEqual(self.hall.asked("den"), ())


if __name__ == "__main__":
    unittest.main()
