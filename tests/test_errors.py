import unittest

from talkleast import errors

NAMES = ("NoTable", "NoCard", "NoPlan", "NoWord", "NoCode", "TooGreat", "NoText", "NoAsk")


class Errors(unittest.TestCase):
    def test_talk_error_is_directly_under_value_error(self):
        self.assertEqual(errors.TalkError.__bases__, (ValueError,))

    def test_each_error_is_directly_under_talk_error(self):
        for name in NAMES:
            with self.subTest(name):
                self.assertEqual(getattr(errors, name).__bases__, (errors.TalkError,))
                self.assertEqual(getattr(errors, name).__name__, name)

    def test_raised_error_is_none_of_the_others(self):
        for name in NAMES:
            with self.subTest(name):
                with self.assertRaises(errors.TalkError) as caught:
                    raise getattr(errors, name)("words")
                self.assertIsInstance(caught.exception, ValueError)
                kinds = [other for other in NAMES if isinstance(caught.exception, getattr(errors, other))]
                self.assertEqual(kinds, [name])

    def test_talk_error_itself_is_none_of_them(self):
        for name in NAMES:
            self.assertNotIsInstance(errors.TalkError(), getattr(errors, name))


if __name__ == "__main__":
    unittest.main()
