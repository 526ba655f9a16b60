import unittest

from talkhall import errors

NAMES = ("Known", "NoPerson", "NoRoom", "NotIn", "NotAsked", "Barred", "NoRight", "NoRow", "NoHand", "NoLine")


class Errors(unittest.TestCase):
    def test_any_refusal_is_a_value_error(self):
        self.assertTrue(issubclass(errors.TalkError, ValueError))

    def test_each_stands_below_talk_error(self):
        for name in NAMES:
            with self.subTest(name):
                refusal = getattr(errors, name)
                self.assertTrue(issubclass(refusal, errors.TalkError))
                self.assertIsNot(refusal, errors.TalkError)

    def test_none_stands_below_another(self):
        for one in NAMES:
            for other in NAMES:
                if one != other:
                    with self.subTest(one=one, other=other):
                        self.assertFalse(issubclass(getattr(errors, one), getattr(errors, other)))

    def test_each_is_raised_with_words_of_its_own(self):
        for name in NAMES + ("TalkError",):
            with self.subTest(name):
                with self.assertRaises(getattr(errors, name)) as caught:
                    raise getattr(errors, name)("not now")
                self.assertEqual(str(caught.exception), "not now")


if __name__ == "__main__":
    unittest.main()
