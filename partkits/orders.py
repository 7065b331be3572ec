"""The lines that a desk is told, read as a word and what stands behind it (points 78 to 81)."""

from partkits.errors import NoLine, NoText
from partkits.kinds import is_word
from partkits.readings import number_in, read_page

# what stands behind each word: "pages" are several, "times" and "hour" may be left out, and so may the name of "names"
FORMS = {
    "new": "nothing", "tale": "nothing", "steps": "nothing", "turned": "nothing", "aside": "nothing",
    "tell": "page", "take": "page", "bring": "pages", "back": "times", "then": "number",
    "heap": "hour", "came": "hour", "lost": "hour", "lent": "hour", "things": "hour",
    "sheet": "name", "left": "name", "holds": "name", "done": "name", "anew": "name", "finish": "names",
}


def page_in(text):
    """The PAGE that the text writes; None where it writes none."""
    try:
        return read_page(text)
    except NoText:
        return None


def tale_in(text):
    """The TALE of the PAGES in the text, a blank, | and a blank between two; None where one of them is none."""
    pages = [page_in(piece) for piece in text.split(" | ")]
    return None if None in pages else tuple(sorted(set(pages)))


def alone(thing):
    """The thing as all that stands there; None where it is None."""
    return None if thing is None else (thing,)


def number_alone(words):
    """The NUMBER that these words are; None where they are none."""
    return alone(number_in(words[0])) if len(words) == 1 else None


def hour_in(words):
    """The hour that these words are, None where it is left out, as all that stands there; None where they are none."""
    return (None,) if len(words) == 0 else number_alone(words)


def named_in(words):
    """The name and the hour that these words are; None where they are none."""
    hour = hour_in(words[1:])
    if hour is None or len(words) == 0 or not is_word(words[0]):
        return None
    return (words[0], *hour)


def names_in(words):
    """The NAMES, None where they are left out, and the hour that these words are; None where they are none."""
    hour = hour_in(words)
    if hour is not None:
        return (None, *hour)
    named = named_in(words)
    return None if named is None else ((named[0],), named[1])


def things_in(form, words):
    """What stands behind a word of this form, where these words stand there; None where they can't."""
    if form == "nothing":
        return () if len(words) == 0 else None
    if form == "page":
        return alone(page_in(" ".join(words)))
    if form == "pages":
        return alone(tale_in(" ".join(words)))
    if form == "times":
        return (1,) if len(words) == 0 else number_alone(words)
    if form == "number":
        return number_alone(words)
    if form == "hour":
        return hour_in(words)
    return named_in(words) if form == "name" else names_in(words)


def read_order(line):
    """(word, things): the word of the line and what stands behind it; refused with NoLine."""
    word, *words = line.split(" ")
    form = FORMS.get(word)
    things = None if form is None else things_in(form, words)
    if things is None:
        raise NoLine(line)
    return (word, things)
