"""The rules of LANGUAGE.md that can be seen from a file alone, for every file of the package."""

import ast
import builtins
import pathlib
import re
import unittest

PACKAGE = pathlib.Path(__file__).resolve().parent.parent / "partkits"
FILES = sorted(PACKAGE.rglob("*.py"))
TREES = {path: ast.parse(path.read_text()) for path in FILES}

BUILTINS = set("""len range enumerate zip min max sum abs sorted reversed int str bool bytes list tuple dict set frozenset
    isinstance ord repr any all divmod iter next super property staticmethod classmethod Exception ValueError TypeError
    KeyError IndexError LookupError ZeroDivisionError ArithmeticError OverflowError RuntimeError NotImplementedError
    AttributeError StopIteration NotImplemented""".split())
METHODS = set("""append clear copy count endswith extend find get index insert isalnum isalpha isdigit islower isspace
    isupper items join keys ljust lower lstrip partition pop remove replace reverse rfind rjust rpartition rsplit rstrip
    setdefault split splitlines startswith strip update upper values zfill bit_length title capitalize swapcase casefold
    center expandtabs removeprefix removesuffix rindex isascii isdecimal isnumeric istitle isidentifier isprintable
    translate add discard""".split())
DOUBLE = set("""init eq repr str len enter exit call iter lt le gt ge ne add sub mul floordiv mod pow and or xor lshift
    rshift neg pos invert abs bool contains getitem setitem""".split())
BARRED_WORDS = set("""type typing typing_extensions enum Enum IntEnum StrEnum Flag IntFlag Generic Protocol ABC ABCMeta
    namedtuple NamedTuple TypedDict TYPE_CHECKING abstractmethod""".split())
BARRED_NAMES = set("""register mro elements open input law version_info with_traceback add_note attrgetter breakpoint
    builtins compile copyright credits delattr dir eval exec exit gc getattr globals hasattr help id importlib license
    locals methodcaller os quit setattr type vars sys""".split())
TAKES_A_LIST = ("any", "all", "min", "max", "sum", "sorted")
BARRED_NODES = (ast.Global, ast.AsyncFunctionDef, ast.AsyncFor, ast.AsyncWith, ast.Await, ast.Import, ast.Div,
                ast.MatMult, ast.TryStar, ast.MatchClass, ast.MatchMapping)
FUNCTIONS = (ast.FunctionDef, ast.Lambda)
AT_ONCE = {"zip", "enumerate", "range", "reversed", "items", "keys", "values"}
ITERATES = {"list", "tuple", "dict", "sorted", "sum", "any", "all", "enumerate", "zip", "min", "max"}
KEYWORDS = {"sorted": {"key", "reverse"}, "min": {"key", "default"}, "max": {"key", "default"}, "sum": {"start"},
            "enumerate": {"start"}, "zip": {"strict"}}
KEYS = {"len", "int", "str", "abs", "sum", "min", "max", "tuple"}
MODIFIES = {"append", "clear", "extend", "insert", "pop", "remove", "reverse", "setdefault", "update", "sort"}
COMPREHENSIONS = (ast.ListComp, ast.SetComp, ast.DictComp, ast.GeneratorExp)


def nodes(kind):
    """All nodes of a kind, each with its file's name."""
    return [(path.name, node) for path in FILES for node in ast.walk(TREES[path]) if isinstance(node, kind)]


def bound_names(tree):
    """Every name that a file binds, by an assignment, a loop, a parameter, a def, a class or a handler."""
    told = []
    for node in ast.walk(tree):
        if isinstance(node, ast.Name) and isinstance(node.ctx, ast.Store):
            told.append(node.id)
        elif isinstance(node, ast.arg):
            told.append(node.arg)
        elif isinstance(node, (ast.FunctionDef, ast.ClassDef, ast.ExceptHandler)) and node.name:
            told.append(node.name)
        elif isinstance(node, ast.alias):
            told.append(node.asname or node.name)
    return told


def parents(tree):
    """A dict from each node, by its id, to the one around it."""
    return {id(inner): node for node in ast.walk(tree) for inner in ast.iter_child_nodes(node)}


def called_name(node):
    """The name of the function or method that a node calls, else None."""
    if not isinstance(node, ast.Call):
        return None
    return node.func.id if isinstance(node.func, ast.Name) else getattr(node.func, "attr", None)


def iterated(node):
    """What a loop or a comprehension goes through, as text, also within enumerate, zip and the like."""
    if called_name(node) in AT_ONCE:
        inner = node.args if isinstance(node.func, ast.Name) else [node.func.value]
        return [text for argument in inner for text in iterated(argument)]
    return [ast.unparse(node)] if isinstance(node, (ast.Name, ast.Attribute, ast.Subscript)) else []


def modified(node):
    """What a node changes, as text: an item that is assigned or deleted, or what a method changes."""
    if isinstance(node, ast.Subscript) and not isinstance(node.ctx, ast.Load):
        return ast.unparse(node.value)
    if isinstance(node, ast.Call) and isinstance(node.func, ast.Attribute) and node.func.attr in MODIFIES:
        return ast.unparse(node.func.value)
    if isinstance(node, ast.AugAssign):
        return ast.unparse(node.target)
    return None


def top_names(tree):
    """The names that a file itself defines at module level."""
    told = [node.name for node in tree.body if isinstance(node, (ast.FunctionDef, ast.ClassDef))]
    return told + [node.targets[0].id for node in tree.body if isinstance(node, ast.Assign)]


def file_of(module):
    return PACKAGE / (module.partition("partkits.")[2].replace(".", "/") + ".py")


class Files(unittest.TestCase):
    def test_nothing_but_files_of_plain_names(self):
        for path in PACKAGE.rglob("*"):
            if "__pycache__" not in path.parts:
                self.assertRegex(path.name, r"^[a-z0-9_]+\.py$")
        self.assertLessEqual(len(FILES), 100)
        self.assertTrue((PACKAGE / "__init__.py").exists())

    def test_size_and_signs(self):
        for path in FILES:
            text = path.read_text()
            lines = text.split("\n")
            self.assertLessEqual(len(lines), 399, path.name)
            for number, line in enumerate(lines, 1):
                self.assertLessEqual(len(line), 120, (path.name, number))
                self.assertRegex(line, r"^[ -~]*$", (path.name, number))
        for name, node in nodes(ast.FunctionDef):
            self.assertLessEqual(node.end_lineno - node.lineno + 1, 40, (name, node.name))

    def test_barred_words(self):
        for path in FILES:
            text = path.read_text()
            self.assertEqual(BARRED_WORDS & set(re.findall(r"\w+", text)), set(), path.name)
            self.assertNotRegex(text, "dataclass|overload|contextmanager", path.name)


class Imports(unittest.TestCase):
    def test_from_the_very_file_that_defines_the_name(self):
        for name, node in nodes(ast.ImportFrom):
            self.assertEqual(node.level, 0, name)
            self.assertTrue(node.module.startswith("partkits."), (name, node.module))
            for alias in node.names:
                self.assertIn(alias.name, top_names(TREES[file_of(node.module)]), name)

    def test_at_the_top_and_in_no_circle(self):
        needs = {}
        for path in FILES:
            body = [node for node in TREES[path].body if not isinstance(node, ast.Expr)]
            inside = [node for node in ast.walk(TREES[path]) if isinstance(node, ast.ImportFrom)]
            self.assertEqual(body[:len(inside)], inside, path.name)
            needs[path] = {file_of(node.module) for node in inside}
        while needs:
            free = [path for path in needs if not needs[path]]
            self.assertNotEqual(free, [], "imports in a circle")
            needs = {path: needs[path] - set(free) for path in needs if path not in free}


class Statements(unittest.TestCase):
    def test_module_level(self):
        for path in FILES:
            for at, node in enumerate(TREES[path].body):
                doc = at == 0 and isinstance(node, ast.Expr) and isinstance(node.value, ast.Constant)
                plain = isinstance(node, ast.Assign) and [isinstance(t, ast.Name) for t in node.targets] == [True]
                known = isinstance(node, (ast.ImportFrom, ast.FunctionDef, ast.ClassDef))
                self.assertTrue(doc or plain or known, (path.name, node.lineno))

    def test_barred_statements_and_signs(self):
        self.assertEqual([(name, node) for name, node in nodes(BARRED_NODES)], [])
        for name, node in nodes(ast.Constant):
            self.assertNotIsInstance(node.value, (float, complex), name)
            if isinstance(node.value, str):
                self.assertNotIn("%", node.value, name)

    def test_is_only_with_none_and_truths(self):
        for name, node in nodes(ast.Compare):
            for sign, right in zip(node.ops, node.comparators):
                if isinstance(sign, (ast.Is, ast.IsNot)):
                    self.assertIn(ast.unparse(right), ("None", "True", "False"), (name, node.lineno))

    def test_lists_where_a_generator_is_barred(self):
        for name, node in nodes(ast.Call):
            if isinstance(node.func, ast.Name) and node.func.id in TAKES_A_LIST:
                for argument in node.args:
                    self.assertNotIsInstance(argument, ast.GeneratorExp, (name, node.lineno))

    def test_parameters_and_decorators(self):
        for name, node in nodes(FUNCTIONS):
            self.assertEqual(node.args.posonlyargs, [], name)
        for name, node in nodes(ast.FunctionDef):
            for decorator in node.decorator_list:
                self.assertIn(ast.unparse(decorator).partition(".")[2] or ast.unparse(decorator),
                              ("property", "setter", "staticmethod", "classmethod"), name)
        for name, node in nodes(ast.ClassDef):
            self.assertEqual(node.decorator_list, [], name)


class Iterated(unittest.TestCase):
    def test_iterated_at_once(self):
        for path in FILES:
            around = parents(TREES[path])
            for node in ast.walk(TREES[path]):
                if called_name(node) in AT_ONCE:
                    above = around[id(node)]
                    looped = isinstance(above, (ast.For, ast.comprehension)) and above.iter is node
                    self.assertTrue(looped or called_name(above) in ITERATES, (path.name, node.lineno))

    def test_sets_stand_where_they_may(self):
        for path in FILES:
            around = parents(TREES[path])
            for node in ast.walk(TREES[path]):
                if isinstance(node, (ast.Set, ast.SetComp)) or called_name(node) == "set":
                    above = around[id(node)]
                    right = called_name(above) in ("sorted", "len") and above.keywords == []
                    self.assertTrue(right or isinstance(above, ast.Compare), (path.name, node.lineno))

    def test_what_is_gone_through_is_not_changed_meanwhile(self):
        for name, node in nodes((ast.For,) + COMPREHENSIONS):
            heads = [node.iter] if isinstance(node, ast.For) else [part.iter for part in node.generators]
            through = {text for head in heads for text in iterated(head)}
            body = node.body if isinstance(node, ast.For) else [node]
            changes = {modified(inner) for row in body for inner in ast.walk(row)}
            self.assertEqual(through & changes, set(), (name, node.lineno))

    def test_comprehensions_are_small(self):
        for name, node in nodes(COMPREHENSIONS):
            self.assertLessEqual(len(node.generators), 6, name)
            self.assertLessEqual(sum(len(part.ifs) for part in node.generators), 12, name)


class Errors(unittest.TestCase):
    def own(self):
        return {node.name for node in TREES[PACKAGE / "errors.py"].body if isinstance(node, ast.ClassDef)}

    def test_only_own_errors_are_raised_and_taken(self):
        for name, node in nodes(ast.Raise):
            self.assertTrue(node.exc is None or called_name(node.exc) in self.own(), (name, node.lineno))
        for name, node in nodes(ast.ExceptHandler):
            self.assertIn(ast.unparse(node.type), self.own() | {"KeyError"}, (name, node.lineno))

    def test_keywords_of_builtins(self):
        for name, node in nodes(ast.Call):
            if isinstance(node.func, ast.Name) and node.func.id in BUILTINS:
                used = {keyword.arg for keyword in node.keywords}
                self.assertTrue(used <= KEYWORDS.get(node.func.id, set()), (name, node.lineno))

    def test_builtins_are_called_or_looked_for(self):
        for path in FILES:
            around = parents(TREES[path])
            for node in ast.walk(TREES[path]):
                if isinstance(node, ast.Name) and node.id in BUILTINS:
                    above = around[id(node)]
                    looked = called_name(above) == "isinstance" or isinstance(above, (ast.Tuple, ast.ClassDef))
                    as_key = isinstance(above, ast.keyword) and above.arg == "key" and node.id in KEYS
                    right = looked or as_key or getattr(above, "func", None) is node
                    self.assertTrue(right, (path.name, node.lineno))


class Kept(unittest.TestCase):
    def test_lists_and_dicts_at_module_level_are_only_read(self):
        for path in FILES:
            tables = {node.targets[0].id for node in TREES[path].body
                      if isinstance(node, ast.Assign) and isinstance(node.value, (ast.List, ast.Dict))}
            around = parents(TREES[path])
            for node in ast.walk(TREES[path]):
                if isinstance(node, ast.Name) and node.id in tables and isinstance(node.ctx, ast.Load):
                    above = around[id(node)]
                    item = isinstance(above, ast.Subscript) and above.value is node and isinstance(above.ctx, ast.Load)
                    asked = isinstance(above, ast.Attribute) and above.attr == "get"
                    self.assertTrue(item or asked or isinstance(above, ast.Compare), (path.name, node.lineno))

    def test_what_is_in_a_table_is_called_by_a_name(self):
        for name, node in nodes(ast.Call):
            self.assertIsInstance(node.func, (ast.Name, ast.Attribute), (name, node.lineno))

    def test_double_underscore_methods(self):
        shown = ("str", "repr", "join")
        for name, node in nodes(ast.FunctionDef):
            if node.name in ("__len__", "__str__", "__repr__"):
                self.assertIsInstance(node.body[-1], ast.Return, (name, node.name))
                for inner in [inner.value for inner in ast.walk(node) if isinstance(inner, ast.Return)]:
                    plain = isinstance(inner, (ast.Constant, ast.JoinedStr))
                    called = called_name(inner) in (("len",) if node.name == "__len__" else shown)
                    self.assertTrue(plain or called, (name, node.name))
            if node.name in ("__eq__", "__len__", "__str__", "__repr__", "__bool__"):
                changes = [inner for inner in ast.walk(node)
                           if isinstance(inner, (ast.Assign, ast.AugAssign, ast.Delete)) or modified(inner)]
                self.assertEqual(changes, [], (name, node.name))


class Names(unittest.TestCase):
    def test_plain_names(self):
        for path in FILES:
            for bound in bound_names(TREES[path]):
                if bound.startswith("__"):
                    self.assertIn(bound.strip("_"), DOUBLE, path.name)
                else:
                    self.assertRegex(bound, r"^[A-Za-z][A-Za-z0-9_]*$", path.name)
                    self.assertNotIn(bound, BARRED_NAMES, path.name)
                    self.assertNotIn(bound, dir(builtins), path.name)

    def test_one_binding_at_module_level(self):
        for path in FILES:
            imported = [alias.asname or alias.name for node in TREES[path].body if isinstance(node, ast.ImportFrom)
                        for alias in node.names]
            bound = top_names(TREES[path]) + imported
            self.assertEqual(len(bound), len(set(bound)), path.name)
            taken = imported + [node.name for node in TREES[path].body if isinstance(node, ast.ClassDef)]
            inner = [node.id for node in ast.walk(TREES[path])
                     if isinstance(node, ast.Name) and isinstance(node.ctx, ast.Store)]
            inner += [node.arg for node in ast.walk(TREES[path]) if isinstance(node, ast.arg)]
            self.assertEqual(set(taken) & set(inner), set(), path.name)

    def test_known_builtins_only(self):
        for path in FILES:
            for node in ast.walk(TREES[path]):
                if isinstance(node, ast.Name) and hasattr(builtins, node.id):
                    self.assertIn(node.id, BUILTINS, (path.name, node.lineno))

    def test_no_sort_and_no_name_that_begins_with_an_underscore(self):
        for name, node in nodes(ast.Attribute):
            self.assertNotEqual(node.attr, "sort", (name, node.lineno))
            self.assertTrue(not node.attr.startswith("_") or node.attr == "__init__", (name, node.lineno))

    def test_known_methods_and_attributes_only(self):
        classes = [node for name, node in nodes(ast.ClassDef)]
        methods = {inner.name for node in classes for inner in node.body if isinstance(inner, ast.FunctionDef)}
        stored = {node.attr for name, node in nodes(ast.Attribute) if isinstance(node.ctx, ast.Store)}
        self.assertEqual(methods & stored, set())
        called = {id(node.func) for name, node in nodes(ast.Call)}
        for name, node in nodes(ast.Attribute):
            if id(node) in called:
                self.assertIn(node.attr, methods | METHODS, (name, node.lineno))
            elif isinstance(node.ctx, ast.Load):
                self.assertIn(node.attr, stored | methods, (name, node.lineno))


if __name__ == "__main__":
    unittest.main()
