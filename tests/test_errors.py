import unittest

from yesnowords import errors

REFUSALS = ["NotIn", "NoMost", "TooFar", "NoFit", "TooMany", "NoText", "NoLine"]


class Errors(unittest.TestCase):
    def test_all_stand_straight_under_the_one(self):
        self.assertEqual(errors.YesNoError.__bases__, (ValueError,))
        for name in REFUSALS:
            self.assertEqual(getattr(errors, name).__bases__, (errors.YesNoError,), name)

    def test_no_other_class(self):
        classes = [name for name, thing in vars(errors).items() if isinstance(thing, type)]
        self.assertEqual(sorted(classes), sorted(REFUSALS + ["YesNoError"]))

    def test_made_with_a_text(self):
        for name in REFUSALS + ["YesNoError"]:
            if name != "NoMost":
                self.assertEqual(str(getattr(errors, name)("some words")), "some words")

    def test_no_most_bears_its_term(self):
        for term in [(), (0,), (0, 2, 5)]:
            self.assertEqual(errors.NoMost(term).term, term)
            with self.assertRaises(ValueError) as caught:
                raise errors.NoMost(term)
            self.assertEqual(caught.exception.term, term)

    def test_none_taken_for_another(self):
        for name in REFUSALS:
            for other in REFUSALS:
                refused = getattr(errors, name)("x")
                self.assertEqual(isinstance(refused, getattr(errors, other)), name == other)


if __name__ == "__main__":
    unittest.main()
