"""The refusals, each in its family, all of them under KitError (point 9).

A refusal keeps the very things that it is made of. Its message is fixed, so that nothing of them is ever
looked at, not even when it is shown.
"""


class KitError(ValueError):
    """The base of all refusals."""


class HeapError(KitError):
    """The family of what HEAPS and things lack."""


class PaperError(KitError):
    """The family of papers that aren't let by, and of papers that show why something is refused."""


class PageError(KitError):
    """The family of what a book refuses."""


class TextError(KitError):
    """The family of texts that can't be read."""


class NoParts(HeapError):
    """A HEAP doesn't hold what should be taken out of it; lacking is the HEAP of what lacks."""

    def __init__(self, lacking):
        super().__init__("the heap lacks parts")
        self.lacking = lacking


class NoThing(HeapError):
    """There is no thing of this name or place."""

    def __init__(self, name):
        super().__init__("there is no such thing")
        self.name = name


class NoPaper(PaperError):
    """A checker doesn't let a paper by; word says what isn't so, at where."""

    def __init__(self, word, at):
        super().__init__("the paper is not let by")
        self.word = word
        self.at = at


class NoDealing(PaperError):
    """There is no dealing; paper shows it."""

    def __init__(self, paper):
        super().__init__("there is no dealing")
        self.paper = paper


class NoKits(PaperError):
    """No kits, however many, make the sheet; paper shows it."""

    def __init__(self, paper):
        super().__init__("no kits make the sheet")
        self.paper = paper


class NoPage(PageError):
    """A book can't do this with what was handed in; word says why."""

    def __init__(self, word):
        super().__init__("the book has no such page")
        self.word = word


class NoBack(PageError):
    """A book can't go back so many steps."""

    def __init__(self):
        super().__init__("the book can not go back so far")


class NoText(TextError):
    """A text can't be read; line and word say where."""

    def __init__(self, line, word):
        super().__init__("the text can not be read")
        self.line = line
        self.word = word


class NoLine(TextError):
    """A desk knows no such line."""

    def __init__(self, line):
        super().__init__("the desk knows no such line")
        self.line = line
