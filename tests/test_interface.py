"""The interface: names, arguments and defaults, each defined in the file under which it is listed."""

import ast
import importlib
import inspect
import pathlib
import unittest

PACKAGE = pathlib.Path(__file__).resolve().parent.parent / "partkits"
FUNCTIONS = {
    "kinds": ("is_number(thing)", "is_word(thing)", "is_part_rows(thing)"),
    "sheets": ("is_want(thing)", "is_way(thing)", "is_sheet(thing)", "is_plain(sheet)", "choices(sheet)",
               "wants_of(sheet, choice=None)", "joined(one, other)", "tidy(sheet)"),
    "sorting": ("sorted_parts(rows, by='form', turned=False)", "sorted_sheets(named, by='name', turned=False)"),
    "wording": ("renamed(heap, forms=None, shades=None)", "sheet_renamed(sheet, forms=None, shades=None)"),
    "dealings": ("is_given(wants, thing)", "serves(heap, wants, given)", "is_dealing(heap, sheet, thing)",
                 "given_sum(wants, given)"),
    "barchecker": ("lets_bar(heap, wants, thing)",),
    "dealing": ("deal(heap, wants)",),
    "changes": ("is_changed(wants, thing)", "changes_in(wants, given)", "changed(heap, wants)"),
    "changechecker": ("lets_changed(heap, wants, thing)",),
    "leastmost": ("least_most(heap, wants, form, shade)",),
    "lmpapers": ("span_paper(heap, wants, form, shade)",),
    "lmchecker": ("lets_least_most(heap, wants, form, shade, thing)",),
    "cases": ("build(heap, sheet)",),
    "casechecker": ("lets_cases(heap, sheet, thing)",),
    "most": ("sheet_of(things, places)", "most(heap, things)"),
    "mostpapers": ("most_paper(heap, things)",),
    "mostchecker": ("lets_most(heap, things, thing)",),
    "onemore": ("one_more(heap, things, places, k)", "joinable(heap, things, places)"),
    "kitting": ("fewest(heap, kits, sheet)",),
    "kitpapers": ("fewest_paper(heap, kits, sheet)",),
    "kitchecker": ("lets_never(heap, kits, sheet, thing)", "lets_kits(heap, kits, sheet, thing)"),
    "classes": ("marks_of(vocabulary, form, shade)", "is_alike(vocabulary, one, other)"),
    "apart": ("parting(vocabulary, one, other)",),
    "apartchecker": ("lets_parting(vocabulary, one, other, thing)",),
    "pages": ("is_deed(thing)", "is_page(thing)", "is_tale(thing)", "with_page(tale, page)", "without_page(tale, page)",
              "until(tale, hour=None)"),
    "telling": ("asides(tale)", "heap_at(tale, hour=None)", "came(tale, hour=None)", "lost(tale, hour=None)",
                "lent(tale, hour=None)", "things_at(tale, hour=None)", "thing_sheet(tale, name, hour=None)",
                "holding(tale, name, hour=None)"),
    "finishing": ("left_to_do(tale, name, hour=None)", "is_finished(tale, name, hour=None)",
                  "can_finish(tale, names=None, hour=None)", "could_anew(tale, name, hour=None)"),
    "lines": ("shown_parts(rows)", "shown_sheet(sheet)", "shown_page(page)", "shown_tale(tale)"),
    "readings": ("read_parts(text)", "read_sheet(text)", "read_page(text, line=0)", "read_tale(text)"),
}
CLASSES = {
    "errors": {name: () for name in (
        "KitError", "HeapError", "PaperError", "PageError", "TextError", "NoParts", "NoThing", "NoPaper", "NoDealing",
        "NoKits", "NoPage", "NoBack", "NoText", "NoLine")},
    "heaps": {"Heap": ("__init__(self, rows=None)", "rows(self)", "many(self, form, shade=None)", "forms(self)",
                       "plus(self, other)", "less(self, other)", "holds(self, other)", "__eq__(self, other)",
                       "__len__(self)", "__bool__(self)", "__str__(self)", "__repr__(self)")},
    "book": {"Book": ("__init__(self)", "tell(self, thing)", "take(self, thing)", "bring(self, thing)",
                      "back(self, times=1)", "tale(self)", "steps(self)", "then(self, k)", "turned(self)",
                      "__len__(self)", "__str__(self)", "__eq__(self, other)")},
    "desk": {"Desk": ("__init__(self)", "say(self, line)")},
}


def defined_in(module):
    """What a file of the package itself defines at its top, by name."""
    tree = ast.parse((PACKAGE / f"{module}.py").read_text())
    return {node.name: node for node in tree.body if isinstance(node, (ast.FunctionDef, ast.ClassDef))}


class Interface(unittest.TestCase):
    def test_functions(self):
        for module, listed in FUNCTIONS.items():
            loaded = importlib.import_module(f"partkits.{module}")
            for line in listed:
                name = line.partition("(")[0]
                self.assertIsInstance(defined_in(module).get(name), ast.FunctionDef, line)
                self.assertEqual(name + str(inspect.signature(getattr(loaded, name))), line)

    def test_classes(self):
        for module, listed in CLASSES.items():
            loaded = importlib.import_module(f"partkits.{module}")
            for name, methods in listed.items():
                self.assertIsInstance(defined_in(module).get(name), ast.ClassDef, name)
                for line in methods:
                    method = vars(getattr(loaded, name))[line.partition("(")[0]]
                    self.assertEqual(line.partition("(")[0] + str(inspect.signature(method)), line)

    def test_a_heap_keeps_no_list_or_dict(self):
        from partkits.heaps import Heap
        for kept in vars(Heap((("brick", "red", 3),))).values():
            self.assertIsInstance(kept, tuple)


if __name__ == "__main__":
    unittest.main()
