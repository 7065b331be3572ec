"""A book: a TALE that is told PAGE by PAGE, with its STEPS, which may be undone (points 70 to 74)."""

from partkits.copies import copied
from partkits.errors import NoBack, NoPage
from partkits.kinds import is_number
from partkits.lines import shown_tale
from partkits.pages import is_page, is_tale
from partkits.telling import asides


class Book:
    """A TALE, at first (), and its STEPS."""

    def __init__(self):
        self.words = []
        # the TALE ahead of all STEPS, and behind each of them
        self.tales = [()]
        # the TALE ahead of the last call that wasn't refused
        self.before = ()

    def step(self, word, tale):
        """One STEP more, with the TALE behind it."""
        self.before = self.tales[-1]
        self.words.append(word)
        self.tales.append(tale)

    def come(self, word, pages):
        """One STEP more, by which these PAGES come; told are those that weren't there."""
        now = self.tales[-1]
        fresh = tuple([copied(page) for page in pages if page not in now])
        self.step(word, tuple(sorted([*now, *fresh])))
        return fresh

    def tell(self, thing):
        """True where the PAGE comes to the TALE, False where it is there already; refused with NoPage."""
        if not is_page(thing):
            raise NoPage("page")
        return len(self.come("tell", (thing,))) > 0

    def take(self, thing):
        """How many PAGES are left where this one goes; refused with NoPage."""
        if not is_page(thing):
            raise NoPage("page")
        if thing not in self.tales[-1]:
            raise NoPage("none")
        self.step("take", tuple([page for page in self.tales[-1] if page != thing]))
        return len(self.tales[-1])

    def bring(self, thing):
        """The PAGES of this TALE that weren't there, and come; refused with NoPage."""
        if not is_tale(thing):
            raise NoPage("tale")
        return copied(self.come("bring", thing))

    def back(self, times=1):
        """The words of so many of the last STEPS, the last one first, which are undone; refused with NoBack."""
        if not is_number(times) or not 1 <= times <= len(self.words):
            raise NoBack()
        left = len(self.words) - times
        undone = self.words[left:]
        self.before = self.tales[-1]
        self.words = self.words[:left]
        self.tales = self.tales[:left + 1]
        return tuple(undone[::-1])

    def tale(self):
        """The TALE."""
        return copied(self.tales[-1])

    def steps(self):
        """The words of the STEPS."""
        return tuple(self.words)

    def then(self, k):
        """The TALE as it was behind the first k STEPS; refused with NoPage."""
        if not is_number(k) or not 0 <= k <= len(self.words):
            raise NoPage("number")
        return copied(self.tales[k])

    def turned(self):
        """The PAGES that were there ahead of the last call and behind it, ASIDE in just one of both."""
        old, now = asides(self.before), asides(self.tales[-1])
        both = [page for page in self.tales[-1] if page in self.before]
        return copied(tuple([page for page in both if (page in old) != (page in now)]))

    def __len__(self):
        return len(self.tales[-1])

    def __str__(self):
        return str(shown_tale(self.tales[-1]))

    def __eq__(self, other):
        return isinstance(other, Book) and self.tales[-1] == other.tales[-1]
