import unittest

from helpers import Case
from samewriting import errors

PLAIN = """BadDegree BadIndex BadKinds BadMap BadNumber BadNumbers BadPath BadPoints BadPolynomial BadPolynomials
BadReader BadRow BadRows BadScribe BadSet BadShort BadSize BadState BadStretch BadTable BadTemplate BadTexts BadTree
BadVariables BadWidth BadWord BadWords BadWorths BadWriter NotEven NotLetBy OtherKinds""".split()


class Errors(Case):
    def test_all_stand_directly_below_writing_error(self):
        self.assertEqual(errors.WritingError.__bases__, (ValueError,))
        for name in PLAIN + ["BadText", "TooMany"]:
            self.assertEqual(getattr(errors, name).__bases__, (errors.WritingError,), name)

    def test_attributes(self):
        self.assertEqual(errors.BadText(3).at, 3)
        self.assertIsNone(errors.BadText(None).at)
        self.assertEqual(errors.BadText(at=0).at, 0)
        self.assertEqual(errors.TooMany(400).most, 400)
        self.assertEqual(errors.TooMany(most=10 ** 40).most, 10 ** 40)

    def test_they_can_be_raised(self):
        for name in PLAIN:
            with self.assertRaises(ValueError):
                raise getattr(errors, name)("so")


if __name__ == "__main__":
    unittest.main()
