"""A desk: a book that is told and asked by lines (points 78 to 82)."""

from partkits.book import Book
from partkits.finishing import can_finish, could_anew, is_finished, left_to_do
from partkits.lines import shown_page, shown_parts, shown_sheet
from partkits.orders import read_order
from partkits.telling import asides, came, heap_at, holding, lent, lost, thing_sheet, things_at


def shown_pages(pages):
    """The PAGES in one line."""
    return "-" if len(pages) == 0 else " | ".join([shown_page(page) for page in pages])


def shown_words(words):
    """The words in one line."""
    return "-" if len(words) == 0 else " ".join(words)


def yes_or_no(truth):
    """The truth as a word."""
    return "yes" if truth else "no"


# what is answered to each word of a line, of the book and of what stands behind the word


def on_tell(book, page):
    return yes_or_no(book.tell(page))


def on_take(book, page):
    return str(book.take(page))


def on_bring(book, tale):
    return shown_pages(book.bring(tale))


def on_back(book, times):
    return shown_words(book.back(times))


def on_tale(book):
    return shown_pages(book.tale())


def on_then(book, k):
    return shown_pages(book.then(k))


def on_steps(book):
    return shown_words(book.steps())


def on_turned(book):
    return shown_pages(book.turned())


def on_aside(book):
    return shown_pages(asides(book.tale()))


def on_heap(book, hour):
    return shown_parts(heap_at(book.tale(), hour).rows())


def on_came(book, hour):
    return shown_parts(came(book.tale(), hour).rows())


def on_lost(book, hour):
    return shown_parts(lost(book.tale(), hour).rows())


def on_lent(book, hour):
    return shown_words([f"{who}={shown_parts(rows)}" for who, rows in lent(book.tale(), hour)])


def on_things(book, hour):
    return shown_words(things_at(book.tale(), hour))


def on_sheet(book, name, hour):
    return shown_sheet(thing_sheet(book.tale(), name, hour))


def on_left(book, name, hour):
    return shown_sheet(left_to_do(book.tale(), name, hour))


def on_holds(book, name, hour):
    held = holding(book.tale(), name, hour)
    return shown_words([f"{row}/{way}/{want}/{shade}/{many}" for row, way, want, shade, many in held])


def on_done(book, name, hour):
    return yes_or_no(is_finished(book.tale(), name, hour))


def on_finish(book, names, hour):
    return yes_or_no(can_finish(book.tale(), names, hour)[0] == "dealt")


def on_anew(book, name, hour):
    return yes_or_no(could_anew(book.tale(), name, hour)[0] == "dealt")


ANSWERS = {
    "tell": on_tell, "take": on_take, "bring": on_bring, "back": on_back, "tale": on_tale, "then": on_then,
    "steps": on_steps, "turned": on_turned, "aside": on_aside, "heap": on_heap, "came": on_came, "lost": on_lost,
    "lent": on_lent, "things": on_things, "sheet": on_sheet, "left": on_left, "holds": on_holds, "done": on_done,
    "finish": on_finish, "anew": on_anew,
}


class Desk:
    """A book, told and asked by lines."""

    def __init__(self):
        self.book = Book()

    def say(self, line):
        """The answer to the line; refused with NoLine, then as the book or the function refuses."""
        word, things = read_order(line)
        if word == "new":
            self.book = Book()
            return "ok"
        answer = ANSWERS[word]
        return answer(self.book, *things)
