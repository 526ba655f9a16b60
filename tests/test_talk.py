"""3.4: say, mend, take_back, and who may, of what they see."""

import unittest

from talkhall.errors import NoRight, NoRow, NotIn
from things import HallCase


class TalkCase(HallCase):
    def setUp(self):
        super().setUp()
        self.mine = self.hall.say("dan", "den", "hello", None)

    def away_and_back(self, who, past, between):
        """who is out while something is done, and comes again to a past that is shown or hidden."""
        self.hall.leave(who, "den")
        told = between()
        self.hall.arrange("ann", "den", "past", past)
        self.hall.enter(who, "den")
        return told


class Say(TalkCase):
    def test_it_tells_the_number_of_its_row(self):
        for who in ("ann", "bob", "cid", "dan"):
            before = self.hall.rows("den")
            number = len(before) + 1
            self.assertEqual(self.hall.say(who, "den", "good day", None), number)
            self.assertEqual(self.hall.rows("den"), before + ((number, who, "say", "good day", None),))

    def test_it_answers_what_was_said(self):
        number = self.hall.say("ann", "den", "hi", self.mine)
        self.assertEqual(self.hall.rows("den")[number - 1], (number, "ann", "say", "hi", self.mine))
        again = self.hall.say("ann", "den", "hi hi", number)
        self.assertEqual(self.hall.rows("den")[-1], (again, "ann", "say", "hi hi", number))

    def test_who_is_not_in_it(self):
        self.hall.arrange("ann", "den", "voice", "some")
        for answer in (None, self.mine, 99):
            self.refuses(NotIn, self.hall.say, "eve", "den", "hello", answer)

    def test_a_guest_where_the_voice_is_some(self):
        self.hall.arrange("ann", "den", "voice", "some")
        self.refuses(NoRight, self.hall.say, "dan", "den", "hello", None)
        for who in ("ann", "bob", "cid"):
            self.hall.say(who, "den", "hello", None)
        self.hall.role("bob", "den", "dan", "speaker")
        self.hall.say("dan", "den", "hello", None)
        self.hall.role("bob", "den", "dan", "guest")
        self.refuses(NoRight, self.hall.say, "dan", "den", "hello", None)
        self.hall.arrange("ann", "den", "voice", "all")
        self.hall.say("dan", "den", "hello", None)

    def test_no_right_is_told_ahead_of_no_row(self):
        self.hall.arrange("ann", "den", "voice", "some")
        self.refuses(NoRight, self.hall.say, "dan", "den", "hello", 99)

    def test_no_answer_to_what_is_no_say(self):
        self.hall.mend("dan", "den", self.mine, "hello all")
        self.hall.take_back("dan", "den", self.hall.say("dan", "den", "oh", None))
        says = [row[0] for row in self.hall.rows("den") if row[2] == "say"]
        for number in range(-len(self.hall.rows("den")) - 2, len(self.hall.rows("den")) + 3):
            if number not in says:
                self.refuses(NoRow, self.hall.say, "ann", "den", "hi", number)
        self.refuses(NoRow, self.hall.say, "ann", "den", "hi", 10 ** 30)

    def test_what_was_taken_back_may_be_answered(self):
        self.hall.take_back("dan", "den", self.mine)
        number = self.hall.say("ann", "den", "why", self.mine)
        self.assertEqual(self.hall.rows("den")[-1], (number, "ann", "say", "why", self.mine))

    def test_no_answer_to_what_one_does_not_see(self):
        hidden = self.away_and_back("cid", "hidden", lambda: self.hall.say("ann", "den", "psst", None))
        self.refuses(NoRow, self.hall.say, "cid", "den", "what", hidden)
        self.hall.say("cid", "den", "hi", self.mine)
        self.hall.say("bob", "den", "what", hidden)

    def test_an_answer_to_what_the_shown_past_lets_see(self):
        shown = self.away_and_back("cid", "shown", lambda: self.hall.say("ann", "den", "psst", None))
        self.hall.say("cid", "den", "what", shown)

    def test_numbers_are_of_one_room(self):
        self.hall.found("ann", "pit")
        self.refuses(NoRow, self.hall.say, "ann", "pit", "hi", self.mine)
        self.assertEqual(self.hall.say("ann", "pit", "hi", None), 2)

    def test_words_beyond_the_bounds_are_not_refused(self):
        for words in ("", "x" * 61):
            number = self.hall.say("ann", "den", words, None)
            self.assertEqual(self.hall.rows("den")[-1], (number, "ann", "say", words, None))


class MendAndTakeBack(TalkCase):
    def mend(self, who, number):
        self.hall.mend(who, "den", number, "hello all")

    def take_back(self, who, number):
        self.hall.take_back(who, "den", number)

    def both_refuse(self, error, who, number):
        self.refuses(error, self.mend, who, number)
        self.refuses(error, self.take_back, who, number)

    def test_who_said_it_may_mend_it_again_and_again(self):
        for words in ("hello all", "hello you", "hello you"):
            self.writes([("dan", "mend", self.mine, words)], self.hall.mend, "dan", "den", self.mine, words)

    def test_who_said_it_may_take_it_back(self):
        self.writes([("dan", "gone", self.mine)], self.hall.take_back, "dan", "den", self.mine)

    def test_who_is_not_in_it(self):
        for number in (self.mine, 99):
            self.both_refuse(NotIn, "eve", number)
        self.hall.leave("dan", "den")
        for number in (self.mine, 99):
            self.both_refuse(NotIn, "dan", number)

    def test_nobody_else_mends_it(self):
        for who in ("ann", "bob", "cid"):
            self.refuses(NoRight, self.mend, who, self.mine)

    def test_a_keeper_and_an_owner_take_it_back_too(self):
        self.refuses(NoRight, self.take_back, "cid", self.mine)
        self.writes([("bob", "gone", self.mine)], self.hall.take_back, "bob", "den", self.mine)
        of_owner = self.hall.say("ann", "den", "so", None)
        self.refuses(NoRight, self.take_back, "cid", of_owner)
        self.refuses(NoRight, self.take_back, "dan", of_owner)
        self.writes([("bob", "gone", of_owner)], self.hall.take_back, "bob", "den", of_owner)
        of_keeper = self.hall.say("bob", "den", "so", None)
        self.writes([("ann", "gone", of_keeper)], self.hall.take_back, "ann", "den", of_keeper)

    def test_a_guest_mends_and_takes_back_where_the_voice_is_some(self):
        self.hall.arrange("ann", "den", "voice", "some")
        self.writes([("dan", "mend", self.mine, "so")], self.hall.mend, "dan", "den", self.mine, "so")
        self.writes([("dan", "gone", self.mine)], self.hall.take_back, "dan", "den", self.mine)

    def test_what_is_no_say(self):
        self.hall.mend("dan", "den", self.mine, "hello all")
        end = len(self.hall.rows("den"))
        for number in range(-end - 2, end + 3):
            if number != self.mine:
                for who in ("ann", "dan"):
                    self.both_refuse(NoRow, who, number)
        self.both_refuse(NoRow, "ann", 10 ** 30)

    def test_what_was_taken_back_already(self):
        other = self.hall.say("dan", "den", "more", None)
        self.hall.take_back("bob", "den", self.mine)
        for who in ("ann", "bob", "cid", "dan"):
            self.both_refuse(NoRow, who, self.mine)
        self.writes([("dan", "mend", other, "so")], self.hall.mend, "dan", "den", other, "so")

    def test_no_row_is_told_ahead_of_no_right(self):
        self.both_refuse(NoRow, "cid", 1)
        self.hall.take_back("dan", "den", self.mine)
        self.both_refuse(NoRow, "cid", self.mine)

    def test_what_was_taken_back_unseen(self):
        self.away_and_back("dan", "hidden", lambda: self.hall.take_back("bob", "den", self.mine))
        self.assertEqual(self.hall.view("den", "dan"), ((self.mine, "dan", "hello", None),))
        self.both_refuse(NoRow, "dan", self.mine)

    def test_what_one_does_not_see(self):
        hidden = self.away_and_back("bob", "hidden", lambda: self.hall.say("dan", "den", "psst", None))
        self.hall.role("ann", "den", "bob", "keeper")
        self.both_refuse(NoRow, "bob", hidden)
        self.writes([("bob", "gone", self.mine)], self.hall.take_back, "bob", "den", self.mine)
        self.writes([("ann", "gone", hidden)], self.hall.take_back, "ann", "den", hidden)

    def test_what_one_said_in_an_earlier_stay(self):
        self.away_and_back("dan", "hidden", lambda: self.hall.say("ann", "den", "psst", None))
        self.writes([("dan", "mend", self.mine, "so")], self.hall.mend, "dan", "den", self.mine, "so")
        self.writes([("dan", "gone", self.mine)], self.hall.take_back, "dan", "den", self.mine)

    def test_what_the_shown_past_lets_a_keeper_see(self):
        shown = self.away_and_back("bob", "shown", lambda: self.hall.say("dan", "den", "psst", None))
        self.refuses(NoRight, self.take_back, "bob", shown)
        self.hall.role("ann", "den", "bob", "keeper")
        self.writes([("bob", "gone", shown)], self.hall.take_back, "bob", "den", shown)

    def test_words_beyond_the_bounds_are_not_refused(self):
        for words in ("", "x" * 61):
            self.writes([("dan", "mend", self.mine, words)], self.hall.mend, "dan", "den", self.mine, words)


if __name__ == "__main__":
    unittest.main()
