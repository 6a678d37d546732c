import unittest

from glazetold import errors

TOLD = ("NoMix", "NoTrial", "NoName", "NoDay", "Clash", "Twice", "NoText", "NoRow")
ASKED = ("NoWeights", "NoTriangle", "NoChange", "Nothing")
WITHOUT_FIELDS = ("NoName", "NoDay", "Twice", "NoRow", "NoWeights", "NoTriangle", "NoChange", "Nothing")


class FamilyTest(unittest.TestCase):
    def test_all_refusals_are_glaze_errors(self):
        self.assertEqual(errors.GlazeError.__bases__, (ValueError,))
        self.assertEqual(errors.ToldError.__bases__, (errors.GlazeError,))
        self.assertEqual(errors.AskedError.__bases__, (errors.GlazeError,))

    def test_told_stands_straight_under_its_family(self):
        for name in TOLD:
            with self.subTest(name):
                self.assertEqual(getattr(errors, name).__bases__, (errors.ToldError,))

    def test_asked_stands_straight_under_its_family(self):
        for name in ASKED:
            with self.subTest(name):
                self.assertEqual(getattr(errors, name).__bases__, (errors.AskedError,))

    def test_no_class_is_of_both_families(self):
        for name in TOLD:
            self.assertFalse(issubclass(getattr(errors, name), errors.AskedError), name)
        for name in ASKED:
            self.assertFalse(issubclass(getattr(errors, name), errors.ToldError), name)

    def test_each_is_a_value_error(self):
        for name in TOLD + ASKED + ("GlazeError", "ToldError", "AskedError"):
            self.assertTrue(issubclass(getattr(errors, name), ValueError), name)


class FieldTest(unittest.TestCase):
    def test_no_mix(self):
        self.assertEqual(errors.NoMix(3).part, 3)
        self.assertEqual(errors.NoMix(part=0).part, 0)
        self.assertIsNone(errors.NoMix(None).part)

    def test_no_trial(self):
        self.assertEqual(errors.NoTrial("house").word, "house")
        self.assertEqual(errors.NoTrial(word="day").word, "day")

    def test_clash(self):
        by_place = errors.Clash("north", 7)
        self.assertEqual((by_place.house, by_place.number), ("north", 7))
        by_name = errors.Clash(number=8, house="south")
        self.assertEqual((by_name.house, by_name.number), ("south", 8))

    def test_no_text(self):
        self.assertIsNone(errors.NoText().line)
        self.assertIsNone(errors.NoText(None).line)
        self.assertEqual(errors.NoText(4).line, 4)
        self.assertEqual(errors.NoText(line=1).line, 1)

    def test_fields_must_be_told(self):
        for make in (errors.NoMix, errors.NoTrial, errors.Clash):
            with self.assertRaises(TypeError):
                make()
        with self.assertRaises(TypeError):
            errors.Clash("north")

    def test_those_without_fields_are_made_of_a_text(self):
        for name in WITHOUT_FIELDS + ("GlazeError", "ToldError", "AskedError"):
            with self.subTest(name):
                self.assertEqual(str(getattr(errors, name)("why so")), "why so")

    def test_those_with_fields_tell_them(self):
        self.assertIn("3", str(errors.NoMix(3)))
        self.assertIn("look", str(errors.NoTrial("look")))
        self.assertIn("north 7", str(errors.Clash("north", 7)))
        self.assertIn("4", str(errors.NoText(4)))

    def test_each_can_be_caught_as_a_value_error(self):
        made = [errors.NoMix(None), errors.NoTrial("house"), errors.Clash("north", 1), errors.NoText()]
        made += [getattr(errors, name)("why so") for name in WITHOUT_FIELDS]
        for error in made:
            with self.assertRaises(ValueError) as caught:
                raise error
            self.assertIsInstance(caught.exception, errors.GlazeError)
