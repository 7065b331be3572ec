"""Points 78 to 82: a desk, told and asked by lines."""

import itertools
import unittest

from partkits.book import Book
from partkits.desk import Desk
from partkits.errors import HeapError, NoBack, NoLine, NoPage, NoThing, PageError, TextError
from partkits.finishing import can_finish, could_anew, is_finished, left_to_do
from partkits.lines import shown_page, shown_parts, shown_sheet
from partkits.telling import asides, came, heap_at, holding, lent, lost, thing_sheet, things_at
from tests.page_support import DEEDS, pages_of
from tests.paper_support import Refusals
from tests.support import chances
from tests.tale_support import CANT_BE, GROUND, some_tale

OPEN = "1 0 open brick/red/4,plate/blue/2 brick/red/1"
BEGIN = "2 0 begin barn brick/red/2;plate/*/1&."
LAY = "3 0 lay barn 0 0 0 red 1"
LOOKS = ("tale", "steps", "turned", "aside", "then 0", "heap", "came", "lost", "lent", "things", "finish", "heap 3", "came 3",
         "lost 3", "lent 3", "things 3", "finish 3")
OF_NAMES = ("sheet", "left", "holds", "done", "finish", "anew")
NO_FORMS = (
    "", " ", "  ", "-", "x", "New", "NEW", "new ", " new", "new 1", "new x", "news", "tell", "tell ", "tell 3", "tell x",
    "tell 3 0", "tell 3 0 open", "tell 3 0 open -", "tell 3 0 open - - -", "tell  3 0 open - -", "tell 3 0 open - - ",
    " tell 3 0 open - -", "tell 03 0 open - -", "tell 3 0 open - - | 3 0 open - -", "tell 3 0 open - - |", "tell | 3 0 open - -",
    "tell 1000000000000 0 open - -", "told 3 0 open - -", "take", "take 3", "take 3 0 open -", "take 3 0 open - - x",
    "take 3 0 open - - | 4 0 open - -", "bring", "bring ", "bring -", "bring |", "bring 3 0 open -", "bring 3 0 open - - |",
    "bring 3 0 open - - | ", "bring | 3 0 open - -", "bring 3 0 open - - 4 0 open - -", "bring 3 0 open - -|4 0 open - -",
    "bring 3 0 open - - |4 0 open - -", "bring 3 0 open - -| 4 0 open - -", "bring 3 0 open - -  | 4 0 open - -",
    "bring 3 0 open - - |  4 0 open - -", "bring 3 0 open - - | | 4 0 open - -", "bring 3 0 open - - || 4 0 open - -",
    "bring 3 0 open - - | 4 0 open", "bring 3 0 open - - | x", "back ", "back x", "back -1", "back 01", "back 1 1", "back +1",
    "back 1000000000000", "back  1", "tale ", "tale 1", "tale x", "tales", "then", "then ", "then x", "then -1", "then 00",
    "then 0 0", "then 1000000000000", "then barn", "steps 1", "steps x", "turned 1", "turned x", "aside 1", "aside x",
    "aside 3 0 open - -", "heap ", "heap x", "heap barn", "heap -1", "heap 01", "heap 1 1", "heap 1 ", "heap  1",
    "heap 1000000000000", "came x", "came 1 2", "lost x", "lost 1 2", "lent x", "lent ann", "lent 1 2", "things x",
    "things 1 2", "sheet", "sheet ", "sheet 3", "sheet 3 barn", "sheet barn barn", "sheet barn 3 3", "sheet barn x",
    "sheet barn ", "sheet  barn", "sheet Barn", "sheet abcdefghi", "sheet barn 03", "sheet barn 1000000000000", "left",
    "left 3", "left barn x", "left barn 3 3", "holds", "holds 3", "holds barn x", "done", "done 3", "done barn x",
    "done barn 3 x", "finish ", "finish Barn", "finish 3 barn", "finish barn cart", "finish barn 3 3", "finish 3 3",
    "finish abcdefghi", "finish barn x", "finish  3", "finish 03", "anew", "anew 3", "anew barn x", "anew barn 3 3", "?",
    "tell\n3 0 open - -", "heap\n", "say heap", "book", "len", "open - -", "3 0 open - -")


def said(desk, *lines):
    """The answers of a desk to these lines."""
    return [desk.say(line) for line in lines]


def desk_of(*pages):
    """A desk that was told these PAGES."""
    desk = Desk()
    for page in pages:
        desk.say("tell " + shown_page(page))
    return desk


def in_one_line(pages):
    """PAGES as an answer has them."""
    return " | ".join(shown_page(page) for page in pages) or "-"


def all_said(desk):
    """All that a desk answers to looks, as far as it doesn't refuse them."""
    told = said(desk, *LOOKS)
    for word, name, hour in itertools.product(OF_NAMES, ("barn", "cart"), ("", " 3", " 20")):
        try:
            told.append(desk.say(f"{word} {name}{hour}"))
        except NoThing as refusal:
            told.append(refusal.name)
    return told


class Deeds(unittest.TestCase):
    def test_tell(self):
        desk = Desk()
        self.assertEqual(said(desk, "tell " + OPEN, "tell " + OPEN, "tell " + LAY, "tale", "steps"),
                         ["yes", "no", "yes", f"{OPEN} | {LAY}", "tell tell tell"])

    def test_each_deed_told_and_taken(self):
        desk = Desk()
        for page in pages_of(*DEEDS):
            self.assertEqual(desk.say("tell " + shown_page(page)), "yes")
        for left, page in zip(range(len(DEEDS) - 1, -1, -1), pages_of(*DEEDS)):
            self.assertEqual(desk.say(line="take " + shown_page(page)), str(left))
        self.assertEqual(desk.say("tale"), "-")

    def test_bring(self):
        desk = desk_of((2, 0, DEEDS[2]))
        self.assertEqual(desk.say("bring 2 0 open - -"), "-")
        self.assertEqual(desk.say(f"bring {OPEN}"), OPEN)
        self.assertEqual(desk.say(f"bring {LAY} | {OPEN} | {BEGIN} | {LAY}"), f"{BEGIN} | {LAY}")
        self.assertEqual(desk.say("tale"), f"{OPEN} | {BEGIN} | 2 0 open - - | {LAY}")
        self.assertEqual(desk.say("steps"), "tell bring bring bring")

    def test_back(self):
        desk = Desk()
        said(desk, "tell " + OPEN, "bring " + LAY, "take " + OPEN, "tell " + BEGIN)
        self.assertEqual(said(desk, "back", "tale", "back 2", "tale", "steps", "back 1", "tale", "steps"),
                         ["tell", LAY, "take bring", OPEN, "tell", "tell", "-", "-"])

    def test_new(self):
        desk = Desk()
        self.assertEqual(desk.say("new"), "ok")
        said(desk, "tell " + OPEN, "tell " + LAY)
        self.assertEqual(said(desk, "new", "tale", "steps", "turned", "heap"), ["ok", "-", "-", "-", "-"])
        with self.assertRaises(NoBack):
            desk.say("back")
        self.assertEqual(said(desk, "tell " + LAY, "steps", "back", "new", "tale"), ["yes", "tell", "tell", "ok", "-"])


class Looks(unittest.TestCase):
    def test_at_first(self):
        desk = Desk()
        for line in LOOKS:
            self.assertEqual(desk.say(line), "yes" if line.startswith("finish") else "-")

    def test_at_the_book(self):
        desk = Desk()
        said(desk, "tell " + LAY, "tell " + OPEN, "bring " + BEGIN)
        self.assertEqual(said(desk, "tale", "then 0", "then 1", "then 2", "then 3", "steps", "turned", "aside"),
                         [f"{OPEN} | {BEGIN} | {LAY}", "-", LAY, f"{OPEN} | {LAY}", f"{OPEN} | {BEGIN} | {LAY}",
                          "tell tell bring", LAY, "-"])
        self.assertEqual(said(desk, "take " + OPEN, "turned", "aside"), ["2", LAY, LAY])
        lend = "2 0 lend ann plate/blue/1"
        self.assertEqual(said(desk, "tell " + lend, "turned", "aside"), ["yes", "-", f"{lend} | {LAY}"])

    def test_at_an_hour(self):
        desk = Desk()
        said(desk, f"bring {OPEN} | {BEGIN} | {LAY} | 4 0 lend zoe plate/blue/1 | 4 1 lend ann brick/red/1,plate/blue/1",
             "tell 5 0 apart barn brick/red/1", "tell 6 0 begin cart -", "tell 6 0 begin axle .")
        for line, told in (("heap 0", "-"), ("heap 1", "brick/red/3,plate/blue/2"), ("heap 3", "brick/red/2,plate/blue/2"),
                           ("heap 4", "brick/red/1"), ("heap", "brick/red/1"), ("heap 999999999999", "brick/red/1"),
                           ("came 0", "-"), ("came", "brick/red/3,plate/blue/2"), ("lost 4", "-"), ("lost", "brick/red/1"),
                           ("lost 5", "brick/red/1"), ("lent 3", "-"), ("lent", "ann=brick/red/1,plate/blue/1 zoe=plate/blue/1"),
                           ("lent 4", "ann=brick/red/1,plate/blue/1 zoe=plate/blue/1"), ("things 1", "-"),
                           ("things 2", "barn"), ("things 5", "-"), ("things", "axle cart")):
            self.assertEqual(desk.say(line), told, line)

    def test_at_a_thing(self):
        desk = Desk()
        said(desk, f"bring {OPEN} | {BEGIN} | {LAY}", "tell 5 0 lay barn 0 0 0 red 1")
        for line, told in (("sheet barn", "brick/red/2;plate/*/1&."), ("sheet barn 2", "brick/red/2;plate/*/1&."),
                           ("left barn 2", "brick/red/2;plate/*/1&."), ("left barn 3", "brick/red/1&."), ("left barn", ".&."),
                           ("holds barn 2", "-"), ("holds barn 3", "0/0/0/red/1"), ("holds barn", "0/0/0/red/2"),
                           ("done barn 2", "no"), ("done barn 3", "no"), ("done barn", "yes"), ("done barn 5", "yes"),
                           ("finish barn 2", "yes"), ("finish barn", "yes"), ("finish", "yes"), ("finish 0", "yes"),
                           ("finish 2", "yes"), ("anew barn 2", "yes"), ("anew barn", "yes")):
            self.assertEqual(desk.say(line), told, line)
        said(desk, "tell 2 1 lend ann brick/red/2")
        for line, told in (("finish barn 3", "no"), ("finish 3", "no"), ("finish 2", "yes"), ("anew barn 3", "yes"),
                           ("done barn", "no"), ("holds barn", "0/0/0/red/1")):
            self.assertEqual(desk.say(line), told, line)
        said(desk, "tell 9 0 begin cart -")
        self.assertEqual(said(desk, "finish", "finish cart", "finish barn", "sheet cart", "left cart", "holds cart", "done cart",
                              "anew cart", "things"), ["no", "yes", "no", "-", "-", "-", "yes", "yes", "barn cart"])

    def test_several_held(self):
        desk = desk_of(*pages_of(("open", (("a", "r", 3), ("a", "s", 3)), ()), ("begin", "x", (((("a", (), 4),),),) * 2),
                                 ("lay", "x", 1, 0, 0, "s", 1), ("lay", "x", 0, 0, 0, "s", 2), ("lay", "x", 0, 0, 0, "r", 1)))
        self.assertEqual(desk.say("holds x"), "0/0/0/r/1 0/0/0/s/2 1/0/0/s/1")

    def test_as_the_functions_tell(self):
        seen = set()
        for chance in chances(60):
            tale = some_tale(chance, 25)
            desk, book = Desk(), Book()
            for page in chance.sample(tale, len(tale)):
                self.assertEqual(desk.say("tell " + shown_page(page)), "yes" if book.tell(page) else "no")
                self.assertEqual(desk.say("turned"), in_one_line(book.turned()))
            self.assertEqual(said(desk, "tale", "aside", f"then {len(tale) // 2}"),
                             [in_one_line(tale), in_one_line(asides(tale)), in_one_line(book.then(len(tale) // 2))])
            for hour in (None, 0, chance.randint(0, 12), 99):
                end = "" if hour is None else f" {hour}"
                self.assertEqual(said(desk, "heap" + end, "came" + end, "lost" + end, "things" + end),
                                 [shown_parts(heap_at(tale, hour).rows()), shown_parts(came(tale, hour).rows()),
                                  shown_parts(lost(tale, hour).rows()), " ".join(things_at(tale, hour)) or "-"])
                self.assertEqual(desk.say("lent" + end), " ".join(f"{who}={shown_parts(rows)}"
                                                                  for who, rows in lent(tale, hour)) or "-")
                yes = {"dealt": "yes", "cases": "no", True: "yes", False: "no"}
                self.assertEqual(desk.say("finish" + end), yes[can_finish(tale, hour=hour)[0]])
                for name in things_at(tale, hour):
                    told = said(desk, *[f"{word} {name}{end}" for word in OF_NAMES])
                    held = ["/".join(map(str, own)) for own in holding(tale, name, hour)]
                    self.assertEqual(told, [shown_sheet(thing_sheet(tale, name, hour)),
                                            shown_sheet(left_to_do(tale, name, hour)), " ".join(held) or "-",
                                            yes[is_finished(tale, name, hour)], yes[can_finish(tale, (name,), hour)[0]],
                                            yes[could_anew(tale, name, hour)[0]]])
                    seen.add(tuple(told[3:]))
        self.assertTrue({("no", "no", "no"), ("no", "no", "yes"), ("no", "yes", "yes"), ("yes", "yes", "yes")} <= seen)


class Refused(unittest.TestCase, Refusals):
    def unchanged(self, desk, refusal, line):
        """The refusal that comes of the line; that the desk answers as before, to itself and to what it kept."""
        before = all_said(desk)
        with self.assertRaises(refusal) as caught:
            desk.say(line)
        self.assertEqual(all_said(desk), before)
        return caught.exception

    def test_lines_of_no_form(self):
        desk = desk_of(*GROUND)
        for line in NO_FORMS:
            self.assertIs(self.unchanged(desk, NoLine, line).line, line)

    def test_ahead_of_all_else(self):
        """Of no form, and the book would refuse it as well."""
        for desk in (Desk(), desk_of(*GROUND)):
            for line in ("back x", "then x", "take 9 9 open -", "sheet mill x", "anew mill 01", "finish mill mill", "bring x"):
                self.unchanged(desk, NoLine, line)

    def test_a_line_spoilt_at_any_place(self):
        """Each line with a word more, less, or an odd one in each place: of no form, or of another one."""
        lines = ("tell " + LAY, f"bring {OPEN} | {LAY}", "then 3", "heap 3", "sheet barn 3", "finish barn 3")
        for line in lines:
            words = line.split(" ")
            for at in range(len(words)):
                for wrong in (["?"], [""], ["", ""], ["A"], ["0x"], [words[at], "?"], ["|", "|"]):
                    spoilt = " ".join(words[:at] + wrong + words[at + 1:])
                    with self.assertRaises(NoLine) as caught:
                        Desk().say(spoilt)
                    self.assertIs(caught.exception.line, spoilt)

    def test_as_the_book_refuses(self):
        desk = desk_of(*GROUND)
        for line in ("take 99 0 open - -", "take 0 1 " + shown_page(GROUND[0]).partition(" 0 ")[2]):
            self.assertEqual(self.unchanged(desk, NoPage, line).word, "none")
        for k in (6, 7, 999999999999):
            self.assertEqual(self.unchanged(desk, NoPage, f"then {k}").word, "number")
            self.unchanged(desk, NoBack, f"back {k}")
        self.unchanged(desk, NoBack, "back 0")
        self.unchanged(Desk(), NoBack, "back")
        self.unchanged(Desk(), NoPage, "then 1")

    def test_as_the_functions_refuse(self):
        desk = desk_of(*GROUND)
        for word in OF_NAMES:
            for name, hour in (("mill", ""), ("mill", " 20"), ("barn", " 0"), ("finish", ""), ("abcdefgh", " 999999999999")):
                self.assertEqual(self.unchanged(desk, NoThing, f"{word} {name}{hour}").name, name)

    def test_taken_by_their_families_alone(self):
        desk = desk_of(*GROUND)
        self.assert_families(NoLine, lambda: desk.say("x"), family=TextError)
        self.assert_families(NoLine, lambda: desk.say("tell 3 0 open"), family=TextError)
        self.assert_families(NoPage, lambda: desk.say("take 99 0 open - -"), family=PageError)
        self.assert_families(NoPage, lambda: desk.say("then 99"), family=PageError)
        self.assert_families(NoBack, lambda: desk.say("back 99"), family=PageError)
        self.assert_families(NoThing, lambda: desk.say("sheet mill"), family=HeapError)


class Kept(unittest.TestCase):
    def test_what_only_asks_changes_nothing(self):
        desk = desk_of(*GROUND, *[(20, at, deed) for at, deed in enumerate(CANT_BE)])
        before = all_said(desk)
        self.assertEqual(all_said(desk), before)

    def test_two_desks_know_nothing_of_one_another(self):
        one, other = Desk(), Desk()
        tale = GROUND + tuple((20, at, deed) for at, deed in enumerate(CANT_BE[:6]))
        for at, page in enumerate(tale):
            (one if at % 2 else other).say("tell " + shown_page(page))
            self.assertEqual(one.say("tale"), in_one_line(tale[1:at + 1:2]))
            self.assertEqual(other.say("tale"), in_one_line(tale[:at + 1:2]))
        before = all_said(other)
        said(one, "back", "new", "tell " + OPEN)
        self.assertEqual(all_said(other), before)
        self.assertEqual(one.say("steps"), "tell")

    def test_beyond_the_bounds(self):
        desk = Desk()
        rows = ",".join(["a/b/999999999999"] * 60)
        sheet = "&".join(["a/*/999999999999;."] * 30)
        self.assertEqual(said(desk, f"tell 0 0 open {rows} -", f"tell 1 0 begin x {sheet}", "heap", "finish", "sheet x"),
                         ["yes", "yes", f"a/b/{60 * 999999999999}", "yes", sheet])

    def test_each_answer_is_a_line(self):
        desk = desk_of(*GROUND)
        for answer in all_said(desk) + said(desk, "back 2", "bring " + OPEN, "new"):
            self.assertIs(type(answer), str)
            self.assertNotIn("\n", answer)
            self.assertNotEqual(answer, "")


if __name__ == "__main__":
    unittest.main()
