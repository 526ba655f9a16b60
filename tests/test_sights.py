"""4.1 to 4.3: sees, view, calls, read_to, unread."""

import unittest

from talkhall.errors import NoRow
from things import HallCase, hall_of


class SightCase(unittest.TestCase):
    """ann founds den; bob is out while something is said."""

    def setUp(self):
        self.hall = hall_of("ann", "bob", "cid")
        self.hall.found("ann", "den")

    def say(self, who, words, answer=None):
        return self.hall.say(who, "den", words, answer)

    def hide(self):
        self.hall.arrange("ann", "den", "past", "hidden")

    def show(self):
        self.hall.arrange("ann", "den", "past", "shown")

    def sees(self, who, *numbers):
        self.assertEqual(self.hall.sees("den", who), numbers)


class Sees(SightCase):
    def test_who_never_came_in_sees_nothing(self):
        self.say("ann", "hello")
        self.sees("bob")
        self.hall.ask("ann", "den", "bob")
        self.hall.bar("ann", "den", "bob")
        self.hall.unbar("ann", "den", "bob")
        self.sees("bob")

    def test_who_founded_it_sees_all(self):
        self.sees("ann", 1)
        self.hall.enter("bob", "den")
        self.say("bob", "hello")
        self.sees("ann", 1, 2, 3)

    def test_all_ahead_where_the_past_is_shown(self):
        self.say("ann", "hello")
        self.hall.enter("bob", "den")
        self.say("ann", "hello bob")
        self.sees("bob", 1, 2, 3, 4)

    def test_nothing_ahead_where_the_past_is_hidden(self):
        self.hide()
        self.say("ann", "hello")
        self.hall.enter("bob", "den")
        self.say("ann", "hello bob")
        self.sees("bob", 4, 5)

    def test_what_counts_is_the_past_when_who_entered(self):
        self.hall.enter("bob", "den")
        self.hide()
        self.hall.enter("cid", "den")
        self.show()
        self.sees("bob", 1, 2, 3, 4, 5)
        self.sees("cid", 4, 5)

    def test_a_past_that_is_shown_later_shows_nothing_more_to_who_is_in(self):
        self.hide()
        self.hall.enter("bob", "den")
        self.show()
        self.say("bob", "hello")
        self.hall.mend("bob", "den", 5, "hello all")
        self.sees("bob", 3, 4, 5, 6)

    def test_other_settings_leave_the_past_as_it_is(self):
        self.hall.arrange("ann", "den", "voice", "some")
        self.hall.arrange("ann", "den", "door", "open")
        self.hall.enter("bob", "den")
        self.sees("bob", 1, 2, 3, 4)
        self.hide()
        self.hall.arrange("ann", "den", "voice", "all")
        self.hall.enter("cid", "den")
        self.sees("cid", 7)

    def test_to_the_leave_and_that_one_too(self):
        self.hall.enter("bob", "den")
        self.hall.leave("bob", "den")
        self.say("ann", "psst")
        self.sees("bob", 1, 2, 3)

    def test_to_the_out_and_that_one_too(self):
        self.hall.enter("bob", "den")
        self.hall.enter("cid", "den")
        self.hall.out("ann", "den", "cid")
        self.hall.out("ann", "den", "bob")
        self.say("ann", "psst")
        self.sees("bob", 1, 2, 3, 4, 5)
        self.sees("cid", 1, 2, 3, 4)

    def test_to_the_bar_and_that_one_too(self):
        self.hall.enter("bob", "den")
        self.hall.bar("ann", "den", "cid")
        self.hall.bar("ann", "den", "bob")
        self.hall.unbar("ann", "den", "bob")
        self.sees("bob", 1, 2, 3, 4)
        self.sees("cid")

    def test_to_be_barred_while_out_is_not_seen(self):
        self.hall.enter("bob", "den")
        self.hall.leave("bob", "den")
        self.hall.bar("ann", "den", "bob")
        self.sees("bob", 1, 2, 3)

    def test_the_owner_that_comes_behind_the_leave_is_not_seen_by_who_left(self):
        self.hall.enter("bob", "den")
        self.hall.leave("ann", "den")
        self.sees("ann", 1, 2, 3)
        self.sees("bob", 1, 2, 3, 4)

    def test_who_enters_an_empty_room_sees_both_rows(self):
        self.hide()
        self.hall.leave("ann", "den")
        self.hall.enter("bob", "den")
        self.sees("bob", 4, 5)

    def test_coming_again_to_a_hidden_past(self):
        self.hall.enter("bob", "den")
        self.hall.leave("bob", "den")
        self.say("ann", "psst")
        self.hide()
        self.hall.enter("bob", "den")
        self.say("ann", "hello")
        self.sees("bob", 1, 2, 3, 6, 7)
        self.hall.out("ann", "den", "bob")
        self.say("ann", "psst")
        self.hall.enter("bob", "den")
        self.sees("bob", 1, 2, 3, 6, 7, 8, 10)

    def test_coming_again_to_a_shown_past(self):
        self.hide()
        self.hall.enter("bob", "den")
        self.hall.leave("bob", "den")
        self.say("ann", "psst")
        self.sees("bob", 3, 4)
        self.show()
        self.sees("bob", 3, 4)
        self.hall.enter("bob", "den")
        self.sees("bob", 1, 2, 3, 4, 5, 6, 7)

    def test_what_was_seen_stays_seen(self):
        self.say("ann", "hello")
        self.hall.enter("bob", "den")
        self.hide()
        self.hall.bar("ann", "den", "bob")
        self.sees("bob", 1, 2, 3, 4, 5)
        self.hall.unbar("ann", "den", "bob")
        self.hall.enter("bob", "den")
        self.sees("bob", 1, 2, 3, 4, 5, 7)

    def test_a_founder_that_comes_again(self):
        self.hide()
        self.hall.enter("bob", "den")
        self.hall.leave("ann", "den")
        self.say("bob", "psst")
        self.hall.enter("ann", "den")
        self.sees("ann", 1, 2, 3, 4, 7)

    def test_each_room_by_itself(self):
        self.hall.found("bob", "pit")
        self.hall.enter("ann", "pit")
        self.assertEqual(self.hall.sees("pit", "ann"), (1, 2))
        self.assertEqual(self.hall.sees("pit", "cid"), ())


class View(SightCase):
    def views(self, who, *says):
        self.assertEqual(self.hall.view("den", who), says)

    def test_nothing_said(self):
        self.views("ann")
        self.views("bob")

    def test_says_in_order(self):
        self.say("ann", "hello")
        self.hall.enter("bob", "den")
        self.say("bob", "hi", 2)
        self.say("ann", "so", None)
        for who in ("ann", "bob"):
            self.views(who, (2, "ann", "hello", None), (4, "bob", "hi", 2), (5, "ann", "so", None))
        self.views("cid")

    def test_the_last_mend_counts(self):
        self.say("ann", "hello")
        self.say("ann", "so")
        self.hall.mend("ann", "den", 2, "hello all")
        self.hall.mend("ann", "den", 2, "hello you")
        self.views("ann", (2, "ann", "hello you", None), (3, "ann", "so", None))

    def test_what_was_taken_back_has_no_words(self):
        self.say("ann", "hello")
        self.say("ann", "so", 2)
        self.hall.mend("ann", "den", 2, "hello all")
        self.hall.take_back("ann", "den", 2)
        self.views("ann", (2, "ann", None, None), (3, "ann", "so", 2))
        self.hall.take_back("ann", "den", 3)
        self.views("ann", (2, "ann", None, None), (3, "ann", None, 2))

    def test_a_mend_that_is_not_seen(self):
        self.hall.enter("bob", "den")
        self.say("ann", "one")
        self.hall.mend("ann", "den", 3, "two")
        self.hall.leave("bob", "den")
        self.hall.mend("ann", "den", 3, "three")
        self.views("bob", (3, "ann", "two", None))
        self.views("ann", (3, "ann", "three", None))
        self.hide()
        self.hall.enter("bob", "den")
        self.views("bob", (3, "ann", "two", None))
        self.hall.mend("ann", "den", 3, "four")
        self.views("bob", (3, "ann", "four", None))

    def test_a_mend_that_is_seen_by_coming_again_to_a_shown_past(self):
        self.hall.enter("bob", "den")
        self.say("ann", "one")
        self.hall.leave("bob", "den")
        self.hall.mend("ann", "den", 3, "two")
        self.views("bob", (3, "ann", "one", None))
        self.hall.enter("bob", "den")
        self.views("bob", (3, "ann", "two", None))

    def test_a_gone_that_is_not_seen(self):
        self.hall.enter("bob", "den")
        self.say("ann", "one")
        self.hall.leave("bob", "den")
        self.hall.take_back("ann", "den", 3)
        self.views("bob", (3, "ann", "one", None))
        self.views("ann", (3, "ann", None, None))
        self.hall.enter("bob", "den")
        self.views("bob", (3, "ann", None, None))

    def test_a_mend_and_a_gone_of_what_is_not_seen(self):
        self.hide()
        self.say("ann", "one")
        self.say("ann", "two")
        self.hall.enter("bob", "den")
        self.hall.mend("ann", "den", 3, "three")
        self.hall.take_back("ann", "den", 4)
        self.views("bob")
        self.say("ann", "four")
        self.views("bob", (8, "ann", "four", None))

    def test_an_answer_to_what_is_not_seen(self):
        self.hide()
        self.say("ann", "one")
        self.hall.enter("bob", "den")
        self.say("ann", "two", 3)
        self.say("bob", "three", 5)
        self.views("bob", (5, "ann", "two", None), (6, "bob", "three", 5))
        self.views("ann", (3, "ann", "one", None), (5, "ann", "two", 3), (6, "bob", "three", 5))

    def test_all_see_the_same_words_whom_no_mend_is_hidden_from(self):
        self.hall.enter("bob", "den")
        self.say("bob", "one")
        self.hall.mend("bob", "den", 3, "two")
        self.hall.enter("cid", "den")
        self.hall.take_back("ann", "den", self.say("cid", "oh", 3))
        self.assertEqual(self.hall.view("den", "ann"), self.hall.view("den", "bob"))
        self.assertEqual(self.hall.view("den", "ann"), self.hall.view("den", "cid"))


class Calls(SightCase):
    def setUp(self):
        super().setUp()
        self.hall.enter("bob", "den")
        self.hall.enter("cid", "den")

    def calls(self, who, *numbers):
        self.assertEqual(self.hall.calls("den", who), numbers)

    def test_who_is_called_by_others(self):
        self.say("ann", "hello @bob")
        self.say("cid", "@cid @bob @ann")
        self.say("ann", "hello bob")
        self.say("ann", "@bobby")
        self.say("ann", "@bob @bob")
        self.calls("bob", 4, 5, 8)
        self.calls("ann", 5)
        self.calls("cid")

    def test_nobody_calls_themselves(self):
        self.say("bob", "I am @bob")
        self.calls("bob")

    def test_by_the_words_as_they_were_mended(self):
        self.say("ann", "hello @bob")
        self.say("ann", "hello all")
        self.hall.mend("ann", "den", 4, "hello @cid")
        self.hall.mend("ann", "den", 5, "hello @bob")
        self.calls("bob", 5)
        self.calls("cid", 4)

    def test_by_the_words_as_who_sees_them(self):
        self.say("ann", "hello @bob")
        self.say("ann", "hello @cid")
        self.hall.leave("bob", "den")
        self.hall.mend("ann", "den", 4, "hello @cid")
        self.hall.mend("ann", "den", 5, "hello @bob")
        self.calls("bob", 4)
        self.calls("cid", 4)

    def test_what_was_taken_back_calls_nobody(self):
        self.say("ann", "hello @bob")
        self.say("ann", "@bob")
        self.hall.take_back("ann", "den", 4)
        self.calls("bob", 5)

    def test_what_is_not_seen_calls_nobody(self):
        self.hall.leave("bob", "den")
        self.say("ann", "where is @bob")
        self.calls("bob")
        self.hide()
        self.hall.enter("bob", "den")
        self.say("ann", "there is @bob")
        self.calls("bob", 8)


class ReadAndUnread(HallCase):
    def unread(self, *counts):
        self.assertEqual(tuple(self.hall.unread(who, "den") for who in self.hall.people()), counts)

    def setUp(self):
        super().setUp()
        self.first = self.hall.say("ann", "den", "one", None)
        self.second = self.hall.say("bob", "den", "two", self.first)
        self.third = self.hall.say("ann", "den", "three", None)

    def test_all_by_others_is_unread_at_first(self):
        self.unread(1, 2, 3, 3, 0)

    def test_what_was_read_is_not_unread(self):
        self.assertIsNone(self.hall.read_to("cid", "den", self.first))
        self.unread(1, 2, 2, 3, 0)
        self.hall.read_to("cid", "den", self.second)
        self.unread(1, 2, 1, 3, 0)
        self.hall.read_to("cid", "den", self.third)
        self.unread(1, 2, 0, 3, 0)
        self.hall.say("dan", "den", "four", None)
        self.unread(2, 3, 1, 3, 0)

    def test_it_is_no_row(self):
        before = self.hall.rows("den")
        self.hall.read_to("cid", "den", 3)
        self.assertEqual(self.hall.rows("den"), before)

    def test_a_row_that_is_no_say(self):
        self.hall.read_to("cid", "den", 1)
        self.unread(1, 2, 3, 3, 0)
        self.hall.read_to("cid", "den", 2)

    def test_below_what_it_was(self):
        self.refuses(NoRow, self.hall.read_to, "cid", "den", -1)
        self.hall.read_to("cid", "den", 0)
        self.hall.read_to("cid", "den", self.second)
        self.hall.read_to("cid", "den", self.second)
        for number in (self.second - 1, 1, 0, -1, -10 ** 30):
            self.refuses(NoRow, self.hall.read_to, "cid", "den", number)
        self.hall.read_to("dan", "den", 0)

    def test_above_the_last_row(self):
        last = len(self.hall.rows("den"))
        for number in (last + 1, last + 2, 10 ** 30):
            self.refuses(NoRow, self.hall.read_to, "cid", "den", number)
        self.hall.read_to("cid", "den", last)
        self.refuses(NoRow, self.hall.read_to, "cid", "den", last + 1)

    def test_what_was_refused_is_not_read(self):
        self.refuses(NoRow, self.hall.read_to, "cid", "den", 99)
        self.hall.read_to("cid", "den", 0)
        self.unread(1, 2, 3, 3, 0)

    def test_what_was_taken_back_is_not_unread(self):
        self.hall.take_back("ann", "den", self.first)
        self.unread(1, 1, 2, 2, 0)

    def test_what_was_taken_back_unseen_is_unread(self):
        self.hall.leave("dan", "den")
        self.hall.take_back("ann", "den", self.first)
        self.unread(1, 1, 2, 3, 0)

    def test_a_mend_is_not_unread_once_more(self):
        self.hall.read_to("cid", "den", self.third)
        self.hall.mend("ann", "den", self.first, "uno")
        self.unread(1, 2, 0, 3, 0)

    def test_what_is_not_seen_is_not_unread(self):
        self.hall.leave("dan", "den")
        self.hall.say("ann", "den", "psst", None)
        self.unread(1, 3, 4, 3, 0)

    def test_none_of_it_needs_who_to_be_in_the_room(self):
        self.hall.read_to("eve", "den", 2)
        self.refuses(NoRow, self.hall.read_to, "eve", "den", 1)
        self.assertEqual((self.hall.sees("den", "eve"), self.hall.view("den", "eve"), self.hall.calls("den", "eve")),
                         ((), (), ()))
        self.hall.leave("dan", "den")
        self.hall.read_to("dan", "den", self.first)
        self.unread(1, 2, 3, 2, 0)
        self.hall.read_to("dan", "den", len(self.hall.rows("den")))
        self.unread(1, 2, 3, 0, 0)

    def test_each_room_and_each_one_by_themselves(self):
        self.hall.found("ann", "pit")
        self.hall.enter("cid", "pit")
        self.hall.say("ann", "pit", "hello", None)
        self.hall.read_to("cid", "den", self.third)
        self.assertEqual(self.hall.unread("cid", "pit"), 1)
        self.refuses(NoRow, self.hall.read_to, "cid", "pit", 4)
        self.hall.read_to("cid", "pit", 3)
        self.assertEqual(self.hall.unread("cid", "pit"), 0)


if __name__ == "__main__":
    unittest.main()
