"""Tests of luckwright.errors: point [1]'s refusals stand under one class."""

import unittest

from luckwright import errors

KINDS = ("BadPart", "BadSpread", "BadTree", "BadPaper", "BadSize", "BadText", "BadStore", "NoChance", "NoSuch")


class ErrorsTest(unittest.TestCase):
    def test_all_stand_right_under_chance_fault(self):
        self.assertEqual(errors.ChanceFault.__bases__, (ValueError,))
        for name in KINDS:
            with self.subTest(name=name):
                self.assertEqual(getattr(errors, name).__bases__, (errors.ChanceFault,))
                self.assertEqual(getattr(errors, name).__name__, name)

    def test_no_kind_is_caught_as_another(self):
        for name in KINDS:
            for other in KINDS:
                is_under = issubclass(getattr(errors, name), getattr(errors, other))
                self.assertEqual(is_under, name == other)

    def test_each_takes_words(self):
        for name in ("ChanceFault",) + KINDS:
            with self.assertRaises(ValueError) as caught:
                raise getattr(errors, name)("why")
            self.assertEqual(str(caught.exception), "why")
