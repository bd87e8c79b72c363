import unittest

from soundrules.errors import NoCall, NoKept, NoNumber, NoSide, NoSource, NoText, SoundError, TooMany

PLAIN = [TooMany, NoSide, NoNumber, NoSource]
WITH_FIELD = [NoText, NoCall, NoKept]


class Bases(unittest.TestCase):
    def test_any_refusal_is_a_value_error(self):
        self.assertEqual(SoundError.__bases__, (ValueError,))

    def test_each_stands_right_under_sound_error(self):
        for kind in PLAIN + WITH_FIELD:
            self.assertTrue(issubclass(kind, SoundError), kind)

    def test_none_stands_under_another_one(self):
        for kind in PLAIN + WITH_FIELD:
            for other in PLAIN + WITH_FIELD:
                self.assertEqual(issubclass(kind, other), kind is other, (kind, other))

    def test_raised_and_caught_by_name(self):
        for kind in PLAIN:
            with self.assertRaises(kind):
                raise kind("why")
        for kind in WITH_FIELD:
            with self.assertRaises(SoundError):
                raise kind(0)


class Fields(unittest.TestCase):
    def test_part(self):
        for part in (0, 3, None):
            self.assertEqual(NoText(part).part, part)

    def test_row(self):
        for row in ("make x", "", None, ["make", 1]):
            self.assertEqual(NoCall(row).row, row)

    def test_name(self):
        self.assertEqual(NoKept("latin").name, "latin")


if __name__ == "__main__":
    unittest.main()
