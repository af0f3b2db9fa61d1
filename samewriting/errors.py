"""The errors of the package, all directly below WritingError."""


class WritingError(ValueError):
    """What all errors of the package are."""


class BadDegree(WritingError):
    """The degree is no number that is let."""


class BadIndex(WritingError):
    """No letter stands at this index."""


class BadKinds(WritingError):
    """These are no kinds of trees."""


class BadMap(WritingError):
    """This is no map from kinds to others."""


class BadNumber(WritingError):
    """This is no number that is let here."""


class BadNumbers(WritingError):
    """This is no number reader."""


class BadPath(WritingError):
    """The path leads to no tree in the tree."""


class BadPoints(WritingError):
    """These are no points."""


class BadPolynomial(WritingError):
    """This is no polynomial that is let here."""


class BadPolynomials(WritingError):
    """These are no polynomials that are let here."""


class BadReader(WritingError):
    """This is no reader."""


class BadRow(WritingError):
    """This is no row of the width."""


class BadRows(WritingError):
    """These are no rows of the width."""


class BadScribe(WritingError):
    """This is no scribe."""


class BadSet(WritingError):
    """This is no set of trees."""


class BadShort(WritingError):
    """This is no short."""


class BadSize(WritingError):
    """The size is no number that is let."""


class BadState(WritingError):
    """This is no state."""


class BadStretch(WritingError):
    """This is no stretch of the text."""


class BadTable(WritingError):
    """This is no table."""


class BadTemplate(WritingError):
    """This is no template."""


class BadText(WritingError):
    """This is no text: `at` tells how far it can be read, None where that is not told."""

    def __init__(self, at):
        super().__init__("no such text")
        self.at = at


class BadTexts(WritingError):
    """These are no texts that are let here."""


class BadTree(WritingError):
    """This is no tree of the kinds."""


class BadVariables(WritingError):
    """These are no variables that are let here."""


class BadWidth(WritingError):
    """This is no width."""


class BadWord(WritingError):
    """This is no word that is let here."""


class BadWords(WritingError):
    """This is no word machine."""


class BadWorths(WritingError):
    """These are no worths for the variables."""


class BadWriter(WritingError):
    """This is no writer."""


class NotEven(WritingError):
    """The number reader is not even."""


class NotLetBy(WritingError):
    """The tree is not let by."""


class OtherKinds(WritingError):
    """The kinds are not the same."""


class TooMany(WritingError):
    """There would be more than `most`."""

    def __init__(self, most):
        super().__init__("more than " + str(most))
        self.most = most
