"""5.1 and 5.2: hand, tell, lost, say_once."""

import unittest

from talkhall.errors import NoHand, NoPerson, NoRight, NoRoom, NotIn
from things import HallCase, hall_of


class HandCase(HallCase):
    def seen(self, who):
        rows = self.hall.rows("den")
        return tuple(rows[number - 1] for number in self.hall.sees("den", who))

    def tells(self, hand, most, *numbers):
        rows = self.hall.rows("den")
        self.assertEqual(self.hall.tell(hand, "den", most), tuple(rows[number - 1] for number in numbers))


class Hands(HandCase):
    def test_hands_are_numbered_from_0_on_over_all(self):
        self.assertEqual([self.hall.hand(who) for who in ("ann", "bob", "ann", "eve")], [0, 1, 2, 3])
        self.assertEqual(hall_of("ann").hand("ann"), 0)

    def test_a_refused_hand_has_no_number(self):
        self.refuses(NoPerson, self.hall.hand, "zed")
        self.assertEqual(self.hall.hand("ann"), 0)
        self.refuses(NoPerson, self.hall.hand, "zed")
        self.assertEqual(self.hall.hand("ann"), 1)

    def test_no_hand_has_the_number(self):
        for count in range(3):
            for number in (-count - 1, -1, count, count + 1, 10 ** 30):
                for room in ("den", "pit"):
                    self.refuses(NoHand, self.hall.tell, number, room, 1)
                    self.refuses(NoHand, self.hall.lost, number, room, 0)
                    self.refuses(NoHand, self.hall.say_once, number, room, "k", "hello")
            self.hall.hand("eve")

    def test_no_room(self):
        hand = self.hall.hand("ann")
        self.hall.say_once(hand, "den", "k", "hello")
        self.refuses(NoRoom, self.hall.tell, hand, "pit", 1)
        self.refuses(NoRoom, self.hall.lost, hand, "pit", 0)
        self.refuses(NoRoom, self.hall.say_once, hand, "pit", "k", "hello")


class Tell(HandCase):
    def test_it_tells_what_its_owner_sees_part_by_part(self):
        hand = self.hall.hand("ann")
        self.tells(hand, 1, 1)
        self.tells(hand, 2, 2, 3)
        self.tells(hand, 100, 4, 5, 6)
        self.tells(hand, 100)
        self.hall.say("dan", "den", "hello", None)
        self.tells(hand, 1, 7)
        self.tells(hand, 1)

    def test_just_so_many_as_there_are(self):
        hand = self.hall.hand("ann")
        self.tells(hand, 6, 1, 2, 3, 4, 5, 6)
        self.tells(hand, 1)

    def test_it_is_no_row(self):
        before = self.hall.rows("den")
        hand = self.hall.hand("ann")
        self.hall.tell(hand, "den", 3)
        self.hall.lost(hand, "den", 1)
        self.assertEqual(self.hall.rows("den"), before)

    def test_each_hand_by_itself(self):
        one, other = self.hall.hand("ann"), self.hall.hand("ann")
        self.tells(one, 4, 1, 2, 3, 4)
        self.tells(other, 2, 1, 2)
        self.hall.lost(one, "den", 0)
        self.tells(other, 2, 3, 4)
        self.tells(one, 1, 1)

    def test_each_room_by_itself(self):
        hand = self.hall.hand("ann")
        self.hall.found("ann", "pit")
        self.hall.tell(hand, "den", 100)
        self.assertEqual(self.hall.tell(hand, "pit", 100), ((1, "ann", "found"),))
        self.hall.lost(hand, "den", 0)
        self.assertEqual(self.hall.tell(hand, "pit", 100), ())
        self.tells(hand, 1, 1)

    def test_an_owner_that_is_not_in_the_room(self):
        hand = self.hall.hand("eve")
        self.tells(hand, 100)
        self.hall.enter("eve", "den")
        self.tells(hand, 3, 1, 2, 3)
        self.hall.leave("eve", "den")
        self.hall.say("ann", "den", "psst", None)
        self.tells(hand, 100, 4, 5, 6, 7, 8)
        self.tells(hand, 100)

    def test_a_hidden_past(self):
        self.hall.arrange("ann", "den", "past", "hidden")
        hand = self.hall.hand("eve")
        self.hall.enter("eve", "den")
        self.hall.say("ann", "den", "hello", None)
        self.tells(hand, 100, 8, 9)
        self.hall.leave("eve", "den")
        self.hall.say("ann", "den", "psst", None)
        self.hall.enter("eve", "den")
        self.tells(hand, 100, 10, 12)

    def test_rows_that_are_seen_later_than_rows_behind_them(self):
        self.hall.arrange("ann", "den", "past", "hidden")
        hand = self.hall.hand("eve")
        self.hall.enter("eve", "den")
        self.tells(hand, 100, 8)
        self.hall.leave("eve", "den")
        self.hall.arrange("ann", "den", "past", "shown")
        self.hall.enter("eve", "den")
        self.tells(hand, 5, 1, 2, 3, 4, 5)
        self.tells(hand, 4, 6, 7, 9, 10)
        self.tells(hand, 100, 11)
        self.tells(hand, 100)

    def test_rows_as_they_are_also_where_words_were_mended_and_taken_back(self):
        number = self.hall.say("dan", "den", "hello", None)
        self.hall.mend("dan", "den", number, "hello all")
        self.hall.take_back("dan", "den", number)
        hand = self.hall.hand("dan")
        self.hall.tell(hand, "den", 6)
        self.assertEqual(self.hall.tell(hand, "den", 3), (
            (7, "dan", "say", "hello", None), (8, "dan", "mend", 7, "hello all"), (9, "dan", "gone", 7)))

    def test_no_rows_where_most_is_below_its_bound(self):
        hand = self.hall.hand("ann")
        for most in (0, -1, -3):
            self.tells(hand, most)
        self.tells(hand, 1, 1)


class Lost(HandCase):
    def test_rows_above_the_number_are_told_again(self):
        hand = self.hall.hand("ann")
        self.tells(hand, 5, 1, 2, 3, 4, 5)
        self.assertIsNone(self.hall.lost(hand, "den", 3))
        self.tells(hand, 100, 4, 5, 6)
        self.hall.lost(hand, "den", 5)
        self.tells(hand, 100, 6)

    def test_from_0_on_all_is_lost(self):
        hand = self.hall.hand("ann")
        for turn in range(3):
            self.tells(hand, 100, 1, 2, 3, 4, 5, 6)
            self.hall.lost(hand, "den", 0)

    def test_a_number_above_all_that_was_told_loses_nothing(self):
        hand = self.hall.hand("ann")
        self.hall.lost(hand, "den", 3)
        self.tells(hand, 4, 1, 2, 3, 4)
        for number in (4, 5, 6, 7, 100):
            self.hall.lost(hand, "den", number)
        self.tells(hand, 100, 5, 6)

    def test_it_was_told_nothing_yet(self):
        hand = self.hall.hand("ann")
        self.hall.lost(hand, "den", 0)
        self.tells(hand, 2, 1, 2)

    def test_lost_again_and_again(self):
        hand = self.hall.hand("ann")
        self.tells(hand, 6, 1, 2, 3, 4, 5, 6)
        self.hall.lost(hand, "den", 4)
        self.hall.lost(hand, "den", 2)
        self.hall.lost(hand, "den", 5)
        self.tells(hand, 2, 3, 4)
        self.hall.lost(hand, "den", 3)
        self.tells(hand, 100, 4, 5, 6)

    def test_rows_below_that_were_never_told_are_not_held_to_be_told(self):
        self.hall.arrange("ann", "den", "past", "hidden")
        hand = self.hall.hand("eve")
        self.hall.enter("eve", "den")
        self.hall.say("ann", "den", "hello", None)
        self.tells(hand, 100, 8, 9)
        self.hall.leave("eve", "den")
        self.hall.arrange("ann", "den", "past", "shown")
        self.hall.enter("eve", "den")
        self.hall.lost(hand, "den", 8)
        self.tells(hand, 100, 1, 2, 3, 4, 5, 6, 7, 9, 10, 11, 12)

    def test_each_row_once_however_often_it_is_cut_off(self):
        hand = self.hall.hand("dan")
        had = []
        for turn in range(40):
            if turn % 4 == 0:
                self.hall.say("ann", "den", f"turn {turn}", None)
            part = self.hall.tell(hand, "den", turn % 3 + 1)
            if turn % 5 == 4:
                last = had[-1][0] if had else 0
                self.hall.lost(hand, "den", last)
            else:
                had.extend(part)
        had.extend(self.hall.tell(hand, "den", 100))
        self.assertEqual(tuple(had), self.seen("dan"))


class SayOnce(HandCase):
    def test_as_say_of_its_owner_without_answer(self):
        hand = self.hall.hand("dan")
        before = self.hall.rows("den")
        self.assertEqual(self.hall.say_once(hand, "den", "k", "hello"), 7)
        self.assertEqual(self.hall.rows("den"), before + ((7, "dan", "say", "hello", None),))

    def once(self, number, hand, key, words="other words"):
        before = self.hall.rows("den")
        self.assertEqual(self.hall.say_once(hand, "den", key, words), number)
        self.assertEqual(self.hall.rows("den"), before)

    def test_a_key_used_twice(self):
        hand = self.hall.hand("dan")
        self.hall.say_once(hand, "den", "k", "hello")
        self.hall.say("dan", "den", "so", None)
        self.once(7, hand, "k", "hello")
        self.once(7, hand, "k")
        self.assertEqual(self.hall.say_once(hand, "den", "l", "hello"), 9)
        self.once(9, hand, "l")
        self.once(7, hand, "k")

    def test_by_two_hands_of_one_person(self):
        one, other = self.hall.hand("dan"), self.hall.hand("dan")
        self.hall.say_once(one, "den", "k", "hello")
        self.once(7, other, "k")

    def test_by_hands_of_two_people(self):
        one, other = self.hall.hand("dan"), self.hall.hand("cid")
        self.assertEqual(self.hall.say_once(one, "den", "k", "hello"), 7)
        self.assertEqual(self.hall.say_once(other, "den", "k", "hello"), 8)
        self.assertEqual(self.hall.rows("den")[-1], (8, "cid", "say", "hello", None))

    def test_in_two_rooms(self):
        self.hall.found("dan", "pit")
        hand = self.hall.hand("dan")
        self.assertEqual(self.hall.say_once(hand, "den", "k", "hello"), 7)
        self.assertEqual(self.hall.say_once(hand, "pit", "k", "hello"), 2)
        self.once(7, hand, "k")

    def test_any_text_is_a_key(self):
        hand = self.hall.hand("dan")
        for place, key in enumerate(("", " ", "k", "K", "k ", "hello", "7", "dan", "x" * 100)):
            self.assertEqual(self.hall.say_once(hand, "den", key, "hello"), 7 + place)
            self.once(7 + place, hand, key)

    def test_what_was_said_without_a_key_has_none(self):
        hand = self.hall.hand("dan")
        self.hall.say("dan", "den", "hello", None)
        self.assertEqual(self.hall.say_once(hand, "den", "hello", "hello"), 8)

    def test_who_is_not_in_the_room(self):
        hand = self.hall.hand("eve")
        self.refuses(NotIn, self.hall.say_once, hand, "den", "k", "hello")

    def test_who_is_not_in_the_room_any_more(self):
        hand = self.hall.hand("dan")
        self.hall.say_once(hand, "den", "k", "hello")
        self.hall.leave("dan", "den")
        self.once(7, hand, "k")
        self.refuses(NotIn, self.hall.say_once, hand, "den", "l", "hello")
        self.hall.bar("ann", "den", "dan")
        self.once(7, hand, "k")
        self.hall.unbar("ann", "den", "dan")
        self.hall.arrange("ann", "den", "past", "hidden")
        self.hall.enter("dan", "den")
        self.once(7, hand, "k")

    def test_a_guest_where_the_voice_is_some(self):
        hand = self.hall.hand("dan")
        self.hall.say_once(hand, "den", "k", "hello")
        self.hall.arrange("ann", "den", "voice", "some")
        self.once(7, hand, "k")
        self.refuses(NoRight, self.hall.say_once, hand, "den", "l", "hello")

    def test_a_refused_key_may_be_used_later(self):
        hand = self.hall.hand("eve")
        self.refuses(NotIn, self.hall.say_once, hand, "den", "k", "hello")
        self.hall.enter("eve", "den")
        self.assertEqual(self.hall.say_once(hand, "den", "k", "hello"), 8)
        self.once(8, hand, "k")

    def test_what_was_mended_and_taken_back_is_not_said_again(self):
        hand = self.hall.hand("dan")
        self.hall.say_once(hand, "den", "k", "hello")
        self.hall.mend("dan", "den", 7, "hello all")
        self.once(7, hand, "k", "hello")
        self.hall.take_back("dan", "den", 7)
        self.once(7, hand, "k", "hello")


if __name__ == "__main__":
    unittest.main()
