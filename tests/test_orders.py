"""7.1, 7.2 and 0.2 (f): letters of several halls, some behind letters that are not there, in any order."""

import copy
import itertools
import random
import unittest

from talkhall.orders import height, lacking, order, ready, together

A, B, C, D, E, F = (0, 0), (1, 0), (0, 1), (2, 0), (1, 1), (0, 2)
LETTERS = ((A, ()), (B, ()), (C, (A, B)), (D, (A,)), (E, (C, D)), (F, (A, E)))


def height_by_words(letters, mark):
    """The document's sentence, word by word."""
    known = dict(letters)
    there = [other for other in known[mark] if other in known]
    return 1 if not there else 1 + max(height_by_words(letters, other) for other in there)


def order_by_words(letters):
    return tuple(sorted((mark for mark, behind in letters), key=lambda mark: (height_by_words(letters, mark), mark)))


def is_whole(known, mark):
    return mark in known and all(is_whole(known, other) for other in known[mark])


def ready_by_words(letters):
    return tuple(mark for mark in order_by_words(letters) if is_whole(dict(letters), mark))


def lacking_by_words(letters):
    marks = {mark for mark, behind in letters}
    return tuple(sorted({other for mark, behind in letters for other in behind} - marks))


def drawn(dice, count):
    """Letters of three halls, each behind some of those that were there when it was written."""
    marks, letters = [], []
    for turn in range(count):
        hall = dice.randrange(3)
        mark = (hall, sum(other[0] == hall for other in marks) * dice.randint(1, 2) + turn * 10)
        letters.append((mark, tuple(sorted(dice.sample(marks, dice.randint(0, min(3, len(marks))))))))
        marks.append(mark)
    return tuple(letters)


def some(dice, letters):
    """Some of the letters, in any order."""
    chosen = [letter for letter in letters if dice.random() < 0.7]
    dice.shuffle(chosen)
    return tuple(chosen)


def parts_of(letters):
    return [part for count in range(len(letters) + 1) for part in itertools.combinations(letters, count)]


class Heights(unittest.TestCase):
    def test_all_are_there(self):
        self.assertEqual([height(LETTERS, mark) for mark in (A, B, C, D, E, F)], [1, 1, 2, 2, 3, 4])

    def test_behind_nothing(self):
        self.assertEqual(height(((A, ()),), A), 1)

    def test_none_of_its_behind_is_there(self):
        self.assertEqual(height(((C, (A, B)),), C), 1)
        self.assertEqual(height(((C, (A, B)), (D, ())), C), 1)

    def test_some_of_its_behind_is_there(self):
        self.assertEqual(height(((C, (A, B)), (A, ())), C), 2)
        self.assertEqual(height(((F, (A, E)), (A, ())), F), 2)

    def test_the_greatest_height_counts(self):
        letters = ((A, ()), (C, (A,)), (F, (C,)), (E, (A, C, F)))
        self.assertEqual(height(letters, E), 4)
        letters = ((A, ()), (B, (A,)), (C, (B,)), (D, (A, B)))
        self.assertEqual(height(letters, D), 3)

    def test_a_letter_that_is_left_out_breaks_the_chain(self):
        letters = ((A, ()), (B, (A,)), (C, (B,)), (D, (C,)))
        self.assertEqual(height(letters, D), 4)
        self.assertEqual(height(letters[:1] + letters[2:], D), 2)
        self.assertEqual(height(letters[:2] + letters[3:], D), 1)

    def test_a_great_mark_may_be_below_a_lesser_one(self):
        letters = (((0, 0), ((9, 9),)), ((9, 9), ()))
        self.assertEqual([height(letters, mark) for mark in ((0, 0), (9, 9))], [2, 1])

    def test_each_part_in_each_order(self):
        for part in parts_of(LETTERS):
            for letters in itertools.permutations(part):
                for mark, behind in letters:
                    self.assertEqual(height(letters, mark), height_by_words(part, mark), letters)

    def test_a_long_chain(self):
        chain = tuple(((count % 2, count), ((1 - count % 2, count - 1),) if count else ()) for count in range(3000))
        self.assertEqual(height(chain, (1, 2999)), 3000)
        self.assertEqual(height(chain[::-1], (1, 2999)), 3000)


class Order(unittest.TestCase):
    def test_none(self):
        self.assertEqual(order(()), ())

    def test_lesser_heights_ahead_then_lesser_marks(self):
        self.assertEqual(order(LETTERS), (A, B, C, D, E, F))
        self.assertEqual(order(((C, (D,)), (E, ()), (D, ()), (A, (D,)))), (E, D, A, C))

    def test_marks_go_by_the_hall_then_by_the_count(self):
        letters = tuple((mark, ()) for mark in ((10, 0), (2, 11), (2, 2), (0, 100), (2, 10)))
        self.assertEqual(order(letters), ((0, 100), (2, 2), (2, 10), (2, 11), (10, 0)))

    def test_the_same_in_each_order_in_which_they_come(self):
        for part in parts_of(LETTERS):
            wanted = order_by_words(part)
            for letters in itertools.permutations(part):
                self.assertEqual(order(letters), wanted, letters)

    def test_each_behind_all_that_it_answers(self):
        dice = random.Random(71)
        for turn in range(200):
            letters = some(dice, drawn(dice, dice.randint(0, 14)))
            told = order(letters)
            self.assertEqual(told, order_by_words(letters))
            self.assertEqual(sorted(told), sorted(mark for mark, behind in letters))
            for mark, behind in letters:
                for other in behind:
                    if other in told:
                        self.assertLess(told.index(other), told.index(mark))

    def test_a_long_chain(self):
        chain = tuple(((0, count), ((0, count - 1),) if count else ()) for count in range(3000))
        self.assertEqual(order(chain[::-1]), tuple(mark for mark, behind in chain))
        self.assertEqual(ready(chain[::-1]), tuple(mark for mark, behind in chain))
        self.assertEqual(ready(chain[:0:-1]), ())
        self.assertEqual(together(chain[::-1], chain), chain)


class Lacking(unittest.TestCase):
    def test_none(self):
        self.assertEqual(lacking(()), ())
        self.assertEqual(lacking(LETTERS), ())

    def test_rising_and_each_once(self):
        self.assertEqual(lacking(((F, (D, E)), (C, (A, D)))), (A, E, D))
        self.assertEqual(lacking(((F, (A, B)), (C, (A, B)))), (A, B))

    def test_only_of_letters_that_are_there(self):
        self.assertEqual(lacking(((F, (A, E)),)), (A, E))
        self.assertEqual(lacking(((F, (A, E)), (E, (C, D)))), (A, C, D))

    def test_each_part_in_each_order(self):
        for part in parts_of(LETTERS):
            for letters in itertools.permutations(part):
                self.assertEqual(lacking(letters), lacking_by_words(part), letters)


class Ready(unittest.TestCase):
    def test_none(self):
        self.assertEqual(ready(()), ())

    def test_all(self):
        self.assertEqual(ready(LETTERS), (A, B, C, D, E, F))

    def test_one_is_left_out(self):
        self.assertEqual(ready(LETTERS[1:]), (B,))
        self.assertEqual(ready(LETTERS[:1] + LETTERS[2:]), (A, D))
        self.assertEqual(ready(LETTERS[:4] + LETTERS[5:]), (A, B, C, D))

    def test_far_behind_one_that_is_lacking(self):
        letters = ((C, (B,)), (D, (C,)), (E, (D,)), (F, (E,)), (A, ()))
        self.assertEqual(ready(letters), (A,))

    def test_of_several_behind_one_is_lacking(self):
        for behind in ((A, B), (A, C), (A, B, C)):
            letters = ((A, ()), (D, tuple(sorted(behind))))
            self.assertEqual(ready(letters), (A,))

    def test_in_the_order_of_heights(self):
        self.assertEqual(ready(((A, (D,)), (D, ()), (B, (F,)), (E, ()))), (E, D, A))

    def test_each_part_in_each_order(self):
        for part in parts_of(LETTERS):
            wanted = ready_by_words(part)
            for letters in itertools.permutations(part):
                self.assertEqual(ready(letters), wanted, letters)

    def test_drawn_letters(self):
        dice = random.Random(72)
        for turn in range(200):
            letters = some(dice, drawn(dice, dice.randint(0, 14)))
            self.assertEqual(ready(letters), ready_by_words(letters))
            self.assertEqual(lacking(letters), lacking_by_words(letters))
            if not lacking(letters):
                self.assertEqual(ready(letters), order(letters))


class Together(unittest.TestCase):
    def test_in_the_order_of_heights_as_letters(self):
        self.assertEqual(together(LETTERS[3:], LETTERS[:3]), LETTERS)
        self.assertEqual(together(((C, (D,)), (E, ())), ((D, ()), (A, (D,)))), ((E, ()), (D, ()), (A, (D,)), (C, (D,))))

    def test_heights_are_those_of_both(self):
        # Alone each of these has height 1; together one is behind the other.
        self.assertEqual(together(((A, (B,)),), ((B, ()),)), ((B, ()), (A, (B,))))

    def test_each_once(self):
        self.assertEqual(together(LETTERS[:4], LETTERS[2:]), LETTERS)
        self.assertEqual(together(LETTERS, LETTERS[2:3]), LETTERS)

    def test_with_itself_and_with_none(self):
        self.assertEqual(together((), ()), ())
        for part in parts_of(LETTERS):
            wanted = tuple((mark, dict(part)[mark]) for mark in order_by_words(part))
            for one in itertools.permutations(part):
                self.assertEqual(together(one, one), wanted)
                self.assertEqual(together(one, part), wanted)
                self.assertEqual(together(one, ()), wanted)
                self.assertEqual(together((), one), wanted)

    def test_turned_about_and_of_three(self):
        dice = random.Random(73)
        for turn in range(200):
            letters = drawn(dice, dice.randint(0, 12))
            one, other, third = (some(dice, letters) for part in range(3))
            both = tuple(set(one + other))
            told = together(one, other)
            self.assertEqual(told, tuple((mark, dict(both)[mark]) for mark in order_by_words(both)))
            self.assertEqual(told, together(other, one))
            self.assertEqual(together(told, third), together(one, together(other, third)))
            self.assertEqual(tuple(mark for mark, behind in told), order(told))

    def test_what_comes_by_any_way_is_ordered_alike(self):
        dice = random.Random(74)
        letters = drawn(dice, 12)
        wanted = together(letters, ())
        for turn in range(50):
            had = ()
            for letter in dice.sample(letters, len(letters)):
                had = together(had, (letter,)) if dice.random() < 0.5 else together((letter,), had)
            self.assertEqual(had, wanted)


class Told(unittest.TestCase):
    def test_nothing_is_changed_and_the_same_is_told_again(self):
        dice = random.Random(75)
        for turn in range(20):
            letters = some(dice, drawn(dice, 10))
            kept = copy.deepcopy(letters)
            for deed in (order, lacking, ready, lambda told: together(told, told[:3])):
                self.assertEqual(deed(letters), deed(letters))
                self.assertIs(type(deed(letters)), tuple)
            self.assertEqual(letters, kept)


if __name__ == "__main__":
    unittest.main()
