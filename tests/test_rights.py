"""3.3: arrange, ask, role, out, bar, unbar, and who may."""

import unittest

from talkhall.errors import Known, NoRight, NotIn
from things import HallCase, hall_of, refusal_of

ROLES = ("guest", "speaker", "keeper", "owner")
SETTINGS = (("door", "asked"), ("door", "open"), ("voice", "some"), ("voice", "all"), ("past", "hidden"),
            ("past", "shown"))


class WhoIsNotIn(HallCase):
    def test_not_in_is_told_first(self):
        hall = self.hall
        hall.bar("ann", "den", "dan")
        for who in ("eve", "dan"):
            self.refuses(NotIn, hall.arrange, who, "den", "door", "asked")
            for whom in ("ann", "cid", "dan", "eve"):
                for deed in (hall.ask, hall.out, hall.bar, hall.unbar):
                    self.refuses(NotIn, deed, who, "den", whom)
                for role in ROLES:
                    self.refuses(NotIn, hall.role, who, "den", whom, role)

    def test_who_was_an_owner_and_left(self):
        hall = self.hall
        hall.leave("ann", "den")
        self.refuses(NotIn, hall.arrange, "ann", "den", "door", "asked")
        self.refuses(NotIn, hall.role, "ann", "den", "cid", "keeper")
        self.refuses(NotIn, hall.ask, "ann", "den", "eve")


class Arrange(HallCase):
    def test_a_keeper_and_an_owner_may(self):
        for who in ("ann", "bob"):
            for what, value in SETTINGS:
                self.writes([(who, "set", what, value)], self.hall.arrange, who, "den", what, value)
                self.assertEqual(self.hall.setting("den", what), value)

    def test_each_setting_by_itself(self):
        self.hall.arrange("ann", "den", "voice", "some")
        self.assertEqual([self.hall.setting("den", what) for what in ("door", "voice", "past")],
                         ["open", "some", "shown"])

    def test_the_same_value_again_is_a_row_too(self):
        for turn in range(2):
            self.writes([("ann", "set", "door", "open")], self.hall.arrange, "ann", "den", "door", "open")

    def test_a_guest_and_a_speaker_may_not(self):
        for who in ("cid", "dan"):
            for what, value in SETTINGS:
                self.refuses(NoRight, self.hall.arrange, who, "den", what, value)


class Ask(HallCase):
    def test_a_keeper_and_an_owner_may(self):
        self.hall.leave("dan", "den")
        self.writes([("ann", "ask", "eve")], self.hall.ask, "ann", "den", "eve")
        self.assertEqual(self.hall.asked("den"), ("eve",))
        self.writes([("bob", "ask", "dan")], self.hall.ask, "bob", "den", "dan")
        self.assertEqual(self.hall.asked("den"), ("dan", "eve"))

    def test_who_is_asked_twice_is_asked_once(self):
        for turn in range(2):
            self.writes([("ann", "ask", "eve")], self.hall.ask, "ann", "den", "eve")
        self.assertEqual(self.hall.asked("den"), ("eve",))

    def test_whom_is_in_it(self):
        for who in ("ann", "bob"):
            for whom in ("ann", "bob", "cid", "dan"):
                self.refuses(Known, self.hall.ask, who, "den", whom)

    def test_no_right_is_told_ahead_of_known(self):
        for who in ("cid", "dan"):
            for whom in ("ann", "cid", "dan", "eve"):
                self.refuses(NoRight, self.hall.ask, who, "den", whom)

    def test_who_is_barred_may_be_asked(self):
        self.hall.bar("ann", "den", "eve")
        self.writes([("ann", "ask", "eve")], self.hall.ask, "ann", "den", "eve")
        self.assertEqual((self.hall.asked("den"), self.hall.barred("den")), (("eve",), ("eve",)))


def room_of_roles(mine, other):
    """A room of a second owner, of `me` with the role mine and `you` with the role other."""
    hall = hall_of("boss", "me", "you")
    hall.found("boss", "den")
    for name, role in (("me", mine), ("you", other)):
        hall.enter(name, "den")
        if role != "guest":
            hall.role("boss", "den", name, role)
    return hall


class Role(HallCase):
    def test_whom_is_not_in_it(self):
        for who in ("ann", "bob", "cid", "dan"):
            for role in ROLES:
                self.refuses(NotIn, self.hall.role, who, "den", "eve", role)

    def test_each_role_over_each_role(self):
        low = ("guest", "speaker")
        for mine in ROLES:
            for other in ROLES:
                for role in ROLES:
                    hall = room_of_roles(mine, other)
                    before = hall.rows("den")
                    error, told = refusal_of(hall.role, "me", "den", "you", role)
                    may = mine == "owner" or mine == "keeper" and other in low and role in low
                    wanted = NoRight if not may else Known if role == other else None
                    self.assertIs(error, wanted, (mine, other, role))
                    self.assertIsNone(told)
                    more = () if wanted else ((len(before) + 1, "me", "role", "you", role),)
                    self.assertEqual(hall.rows("den"), before + more)
                    self.assertEqual(hall.role_of("den", "you"), other if wanted else role)

    def test_one_own_role(self):
        for mine in ROLES:
            for role in ROLES:
                hall = room_of_roles(mine, "guest")
                low = mine in ("guest", "speaker") or mine == "keeper"
                wanted = NoRight if low else Known if role == mine else None
                self.assertIs(refusal_of(hall.role, "me", "den", "me", role)[0], wanted, (mine, role))
                self.assertEqual(hall.role_of("den", "me"), mine if wanted else role)

    def test_a_refused_role_changes_nothing(self):
        self.refuses(NoRight, self.hall.role, "bob", "den", "dan", "keeper")
        self.refuses(NoRight, self.hall.role, "bob", "den", "ann", "guest")
        self.refuses(NoRight, self.hall.role, "cid", "den", "dan", "speaker")
        self.refuses(NoRight, self.hall.role, "dan", "den", "dan", "guest")
        self.refuses(NoRight, self.hall.role, "bob", "den", "bob", "keeper")
        self.refuses(Known, self.hall.role, "bob", "den", "dan", "guest")
        self.refuses(Known, self.hall.role, "ann", "den", "ann", "owner")

    def test_a_room_may_have_several_owners(self):
        self.writes([("ann", "role", "bob", "owner")], self.hall.role, "ann", "den", "bob", "owner")
        self.writes([("bob", "role", "ann", "guest")], self.hall.role, "bob", "den", "ann", "guest")
        self.assertEqual(self.hall.roles("den"),
                         (("ann", "guest"), ("bob", "owner"), ("cid", "speaker"), ("dan", "guest")))


class Out(HallCase):
    def test_whom_is_not_in_it_any_more_and_may_come_again(self):
        self.writes([("bob", "out", "cid")], self.hall.out, "bob", "den", "cid")
        self.assertIsNone(self.hall.role_of("den", "cid"))
        self.assertEqual(self.hall.barred("den"), ())
        self.writes([("cid", "enter")], self.hall.enter, "cid", "den")
        self.assertEqual(self.hall.role_of("den", "cid"), "guest")

    def test_whom_is_not_in_it(self):
        for who in ("ann", "bob", "cid", "dan"):
            self.refuses(NotIn, self.hall.out, who, "den", "eve")

    def test_each_role_over_each_role(self):
        for mine in ROLES:
            for other in ROLES:
                hall = room_of_roles(mine, other)
                may = mine in ("keeper", "owner") and ROLES.index(other) < ROLES.index(mine)
                self.assertIs(refusal_of(hall.out, "me", "den", "you")[0], None if may else NoRight, (mine, other))
                self.assertEqual(hall.role_of("den", "you"), None if may else other)

    def test_a_refused_out_changes_nothing(self):
        self.refuses(NoRight, self.hall.out, "cid", "den", "dan")
        self.refuses(NoRight, self.hall.out, "dan", "den", "dan")
        self.refuses(NoRight, self.hall.out, "bob", "den", "ann")
        self.refuses(NoRight, self.hall.out, "bob", "den", "bob")
        self.refuses(NoRight, self.hall.out, "ann", "den", "ann")


class Bar(HallCase):
    def test_whom_is_barred_and_not_in_it_any_more(self):
        self.writes([("bob", "bar", "cid")], self.hall.bar, "bob", "den", "cid")
        self.assertIsNone(self.hall.role_of("den", "cid"))
        self.assertEqual(self.hall.barred("den"), ("cid",))

    def test_whom_that_is_not_in_it(self):
        self.writes([("bob", "bar", "eve")], self.hall.bar, "bob", "den", "eve")
        self.writes([("ann", "bar", "cid")], self.hall.bar, "ann", "den", "cid")
        self.assertEqual(self.hall.barred("den"), ("cid", "eve"))
        self.assertEqual(self.hall.roles("den"), (("ann", "owner"), ("bob", "keeper"), ("dan", "guest")))

    def test_who_had_a_greater_role_and_left(self):
        self.hall.role("ann", "den", "cid", "owner")
        self.hall.leave("ann", "den")
        self.writes([("bob", "bar", "ann")], self.hall.bar, "bob", "den", "ann")

    def test_whom_is_barred_already(self):
        self.hall.bar("ann", "den", "eve")
        self.hall.bar("ann", "den", "dan")
        for who in ("ann", "bob"):
            for whom in ("dan", "eve"):
                self.refuses(Known, self.hall.bar, who, "den", whom)

    def test_no_right_is_told_ahead_of_known(self):
        self.refuses(NoRight, self.hall.bar, "cid", "den", "eve")
        self.hall.bar("ann", "den", "eve")
        for who in ("cid", "dan"):
            self.refuses(NoRight, self.hall.bar, who, "den", "eve")

    def test_each_role_over_each_role(self):
        for mine in ROLES:
            for other in ROLES:
                hall = room_of_roles(mine, other)
                may = mine in ("keeper", "owner") and ROLES.index(other) < ROLES.index(mine)
                self.assertIs(refusal_of(hall.bar, "me", "den", "you")[0], None if may else NoRight, (mine, other))
                self.assertEqual(hall.role_of("den", "you"), None if may else other)
                self.assertEqual(hall.barred("den"), ("you",) if may else ())

    def test_nobody_bars_themselves(self):
        for who in ("ann", "bob", "cid", "dan"):
            self.refuses(NoRight, self.hall.bar, who, "den", who)

    def test_who_was_asked_stays_asked(self):
        self.hall.ask("ann", "den", "eve")
        self.hall.bar("ann", "den", "eve")
        self.assertEqual(self.hall.asked("den"), ("eve",))


class Unbar(HallCase):
    def test_a_keeper_and_an_owner_may(self):
        for who in ("ann", "bob"):
            self.hall.bar("ann", "den", "eve")
            self.writes([(who, "unbar", "eve")], self.hall.unbar, who, "den", "eve")
            self.assertEqual(self.hall.barred("den"), ())
            self.assertIsNone(self.hall.role_of("den", "eve"))

    def test_only_whom(self):
        self.hall.bar("ann", "den", "eve")
        self.hall.bar("ann", "den", "dan")
        self.hall.unbar("ann", "den", "eve")
        self.assertEqual(self.hall.barred("den"), ("dan",))

    def test_whom_is_not_barred(self):
        for who in ("ann", "bob"):
            for whom in ("ann", "bob", "dan", "eve"):
                self.refuses(Known, self.hall.unbar, who, "den", whom)
        self.hall.bar("ann", "den", "eve")
        self.hall.unbar("ann", "den", "eve")
        self.refuses(Known, self.hall.unbar, "ann", "den", "eve")

    def test_no_right_is_told_ahead_of_known(self):
        self.hall.bar("ann", "den", "eve")
        for who in ("cid", "dan"):
            for whom in ("ann", "cid", "dan", "eve"):
                self.refuses(NoRight, self.hall.unbar, who, "den", whom)


if __name__ == "__main__":
    unittest.main()
