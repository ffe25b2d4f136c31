"""That the package keeps to the rules of its language, as far as a look at each file can tell."""

import ast
import builtins
import re
import unittest
from pathlib import Path

FOLDER = Path(__file__).resolve().parent.parent / "evenkeeps"
BUILTINS = set(
    "len range enumerate zip min max sum abs sorted reversed int str bool bytes list tuple dict set frozenset"
    " isinstance ord repr any all divmod iter next Exception ValueError TypeError KeyError IndexError LookupError"
    " ZeroDivisionError ArithmeticError OverflowError RuntimeError NotImplementedError AttributeError StopIteration"
    " NotImplemented".split()
)
BUILTIN_METHODS = set(
    "append clear copy count endswith extend find get index insert isalnum isalpha isdigit islower isspace isupper items"
    " join keys ljust lower lstrip partition pop remove replace reverse rfind rjust rpartition rsplit rstrip setdefault"
    " split splitlines startswith strip update upper values zfill bit_length title capitalize swapcase casefold center"
    " removeprefix removesuffix rindex isascii isdecimal isnumeric istitle isidentifier isprintable add discard".split()
)
OPERATORS = set("lt le gt ge ne neg pos invert abs bool contains getitem setitem".split())
for sign in "add sub mul floordiv mod pow and or xor lshift rshift".split():
    OPERATORS |= {sign, "i" + sign} | ({"r" + sign} if sign != "pow" else set())
DUNDERS = {f"__{name}__" for name in OPERATORS | set("init eq repr str len enter exit call iter".split())}
WORDS = (
    "type typing typing_extensions enum Enum IntEnum StrEnum Flag IntFlag Generic Protocol ABC ABCMeta namedtuple"
    " NamedTuple TypedDict TYPE_CHECKING abstractmethod".split()
)
PARTS = ("dataclass", "overload", "contextmanager")
NO_NAMES = set(
    "register mro elements open input law version_info with_traceback add_note attrgetter breakpoint builtins compile"
    " copyright credits delattr dir eval exec exit gc getattr globals hasattr help id importlib license locals"
    " methodcaller os quit setattr super type vars sys".split()
)
NO_ATTRIBUTES = set(
    "items keys values pop update append clear extend insert remove reverse setdefault sort args encode decode hex"
    " fromhex format format_map mro as_integer_ratio bit_count conjugate from_bytes is_integer to_bytes".split()
)
STATEMENTS = (
    ast.Assign, ast.AugAssign, ast.AnnAssign, ast.If, ast.While, ast.For, ast.Return, ast.Break, ast.Continue, ast.Pass,
    ast.Raise, ast.Assert, ast.Delete, ast.Nonlocal, ast.Match, ast.With, ast.Try, ast.Expr, ast.FunctionDef,
    ast.ClassDef, ast.ImportFrom,
)
ON_THE_SPOT = {"zip", "enumerate", "reversed", "range"}
TAKERS = {"list", "tuple", "dict", "sorted", "sum", "any", "all", "enumerate", "zip", "bytes", "min", "max"}
NEED_LISTS = {"sum", "min", "max", "sorted", "any", "all"}
FILES = sorted(FOLDER.rglob("*.py"))
TREES = {path: ast.parse(path.read_text()) for path in FILES}


def nodes(*kinds):
    for path, tree in TREES.items():
        for node in ast.walk(tree):
            if isinstance(node, kinds):
                yield path, node


def parents(tree):
    return {child: node for node in ast.walk(tree) for child in ast.iter_child_nodes(node)}


def module_names(tree):
    for node in tree.body:
        if isinstance(node, (ast.FunctionDef, ast.ClassDef)):
            yield node.name
        elif isinstance(node, ast.ImportFrom):
            for alias in node.names:
                yield alias.asname or alias.name
        elif isinstance(node, ast.Assign):
            for target in node.targets:
                yield target.id


def locals_of(function):
    """The parameters and the names that a function or a lambda assigns."""
    arguments = function.args
    for argument in arguments.args + arguments.kwonlyargs + [arguments.vararg, arguments.kwarg]:
        if argument:
            yield argument.arg
    for node in ast.walk(function):
        if isinstance(node, ast.Name) and not isinstance(node.ctx, ast.Load):
            yield node.id


def methods():
    for path, node in nodes(ast.ClassDef):
        for part in node.body:
            if isinstance(part, ast.FunctionDef):
                yield node, part


class Language(unittest.TestCase):
    def where(self, path, node):
        return f"{path.name}:{getattr(node, 'lineno', '?')}"

    def test_files(self):
        for path in FOLDER.rglob("*"):
            if "__pycache__" in path.parts:
                continue
            self.assertRegex(path.name, r"^[a-z0-9_]+\.py$")
            self.assertNotRegex(path.stem, r"^(law_|test|site$|conftest$|sitecustomize$|usercustomize$)")
            self.assertNotIn(path.stem, dir(builtins))
        self.assertTrue((FOLDER / "__init__.py").is_file())
        self.assertLessEqual(len(FILES), 100)

    def test_characters_lines_and_words(self):
        for path in FILES:
            text = path.read_text()
            self.assertRegex(text, r"^[ -~\n]*$", path.name)
            lines = text.split("\n")
            self.assertLess(len(lines), 400, path.name)
            self.assertLessEqual(max(map(len, lines)), 120, path.name)
            for word in WORDS:
                self.assertIsNone(re.search(rf"\b{word}\b", text), f"{path.name}: {word}")
            for part in PARTS:
                self.assertNotIn(part, text, path.name)

    def test_size_of_functions(self):
        for path, node in nodes(ast.FunctionDef):
            self.assertLessEqual(node.end_lineno - node.lineno + 1, 40, self.where(path, node))

    def test_imports(self):
        reached = {}
        for path, tree in TREES.items():
            reached[path.stem] = set()
            seen_other = False
            for node in tree.body:
                self.assertNotIsInstance(node, ast.Import)
                if not isinstance(node, ast.ImportFrom):
                    seen_other = seen_other or not isinstance(node, ast.Expr)
                    continue
                self.assertFalse(seen_other, self.where(path, node))
                self.assertEqual(node.level, 0)
                package, stem = node.module.split(".")
                self.assertEqual(package, "evenkeeps")
                reached[path.stem].add(stem)
                defined = set(module_names(ast.Module(
                    [part for part in TREES[FOLDER / f"{stem}.py"].body if not isinstance(part, ast.ImportFrom)], [])))
                for alias in node.names:
                    self.assertIn(alias.name, defined, self.where(path, node))
        for path, node in nodes(ast.ImportFrom, ast.Import):
            self.assertIn(node, TREES[path].body, self.where(path, node))
        done = set()
        while len(done) < len(reached):
            ready = {stem for stem in reached if stem not in done and reached[stem] <= done}
            self.assertTrue(ready, "files that import from each other")
            done |= ready

    def test_module_level(self):
        for path, tree in TREES.items():
            for number, node in enumerate(tree.body):
                self.assertIsInstance(
                    node, (ast.ImportFrom, ast.FunctionDef, ast.ClassDef, ast.Assign, ast.Expr), self.where(path, node))
                if isinstance(node, ast.Expr):
                    self.assertTrue(number == 0 and isinstance(node.value.value, str), self.where(path, node))
                if isinstance(node, ast.Assign):
                    self.assertEqual([type(target) for target in node.targets], [ast.Name], self.where(path, node))
                    for part in ast.walk(node.value):
                        self.assertNotIsInstance(part, (ast.Call, ast.ListComp, ast.Lambda), self.where(path, node))
            names = list(module_names(tree))
            self.assertEqual(len(names), len(set(names)), path.name)

    def test_statements(self):
        for path, node in nodes(ast.stmt):
            self.assertIsInstance(node, STATEMENTS, self.where(path, node))
            self.assertFalse(isinstance(node, ast.AnnAssign), self.where(path, node))
            if isinstance(node, ast.ClassDef):
                self.assertIn(node, TREES[path].body, self.where(path, node))
                self.assertFalse(node.decorator_list or node.keywords, self.where(path, node))
            if isinstance(node, ast.Try):
                for handler in node.handlers:
                    self.assertIsNotNone(handler.type, self.where(path, node))
            if isinstance(node, ast.FunctionDef):
                self.assertFalse(node.args.posonlyargs or node.returns, self.where(path, node))
                for decorator in node.decorator_list:
                    self.assertIn(ast.unparse(decorator), ("property", "staticmethod", "classmethod"))

    def test_names(self):
        for path, tree in TREES.items():
            foreign = {
                name for node in tree.body if isinstance(node, (ast.ImportFrom, ast.ClassDef))
                for name in module_names(ast.Module([node], []))
            }
            own = set(module_names(tree))
            for name in own:
                self.assertNotIn(name, dir(builtins), path.name)
                self.assertNotIn(name, NO_NAMES, path.name)
            for node in ast.walk(tree):
                if isinstance(node, (ast.FunctionDef, ast.Lambda)):
                    for name in locals_of(node):
                        self.assertNotIn(name, dir(builtins), self.where(path, node))
                        self.assertNotIn(name, foreign | NO_NAMES, self.where(path, node))
                        self.assertRegex(name, r"^[A-Za-z][A-Za-z0-9_]*$", self.where(path, node))
                if isinstance(node, ast.Name) and isinstance(node.ctx, ast.Load) and node.id in dir(builtins):
                    self.assertIn(node.id, BUILTINS | {"staticmethod", "property", "classmethod"}, self.where(path, node))
                if isinstance(node, (ast.FunctionDef, ast.ClassDef)) and node.name not in DUNDERS:
                    self.assertRegex(node.name, r"^[A-Za-z][A-Za-z0-9_]*$", self.where(path, node))

    def test_classes(self):
        assigned, read, plain = set(), set(), set()
        for path, node in nodes(ast.Attribute):
            self.assertFalse(node.attr.startswith("_"), self.where(path, node))
            self.assertNotIn(node.attr, {"format", "format_map", "mro"}, self.where(path, node))
            (read if isinstance(node.ctx, ast.Load) else assigned).add(node.attr)
        for owner, method in methods():
            if method.name.startswith("__"):
                self.assertIn(method.name, DUNDERS, owner.name)
            else:
                plain.add(method.name)
        self.assertEqual(assigned & plain, set())
        self.assertEqual(assigned & NO_ATTRIBUTES, set())
        self.assertEqual(read - assigned - plain - BUILTIN_METHODS, set())
        for path, node in nodes(ast.ClassDef):
            names = [part.name for part in node.body if isinstance(part, ast.FunctionDef)]
            self.assertEqual(len(names), len(set(names)), node.name)

    def test_operators_and_texts_change_nothing(self):
        for owner, method in methods():
            if method.name in DUNDERS - {"__init__", "__call__", "__setitem__", "__enter__", "__exit__"}:
                for node in ast.walk(method):
                    if isinstance(node, (ast.Attribute, ast.Subscript)):
                        self.assertIsInstance(node.ctx, ast.Load, f"{owner.name}.{method.name}")
                    self.assertNotIsInstance(node, (ast.Yield, ast.Delete), f"{owner.name}.{method.name}")
            if method.name in ("__str__", "__repr__", "__eq__", "__len__"):
                for node in ast.walk(method):
                    self.assertNotIsInstance(node, (ast.Assign, ast.AugAssign), f"{owner.name}.{method.name}")
                self.assertIsInstance(method.body[-1], ast.Return, f"{owner.name}.{method.name}")

    def test_expressions(self):
        for path, node in nodes(ast.expr):
            where = self.where(path, node)
            self.assertNotIsInstance(node, (ast.Await, ast.NamedExpr, ast.Set, ast.SetComp), where)
            if isinstance(node, ast.Constant):
                self.assertNotIsInstance(node.value, (float, complex), where)
                if isinstance(node.value, str):
                    self.assertNotIn("%", node.value, where)
                    self.assertNotRegex(node.value, r"\._?_$", where)
            if isinstance(node, ast.BinOp):
                self.assertNotIsInstance(node.op, (ast.Div, ast.MatMult), where)
                if isinstance(node.op, ast.Pow):
                    self.assertIsInstance(node.right, ast.Constant, where)
            if isinstance(node, ast.Compare):
                for sign, side in zip(node.ops, node.comparators):
                    if isinstance(sign, (ast.Is, ast.IsNot)):
                        self.assertTrue(isinstance(side, ast.Constant) and side.value in (None, True, False), where)

    def test_calls(self):
        for path, tree in TREES.items():
            above = parents(tree)
            for node in ast.walk(tree):
                where = self.where(path, node)
                if isinstance(node, ast.GeneratorExp):
                    self.fail(f"{where}: take a list")
                if not isinstance(node, ast.Call):
                    continue
                name = node.func.id if isinstance(node.func, ast.Name) else None
                if name in NEED_LISTS and len(node.args) == 1:
                    self.assertNotIsInstance(node.args[0], ast.GeneratorExp, where)
                stored = name in ON_THE_SPOT or (
                    isinstance(node.func, ast.Attribute) and node.func.attr in ("items", "keys", "values"))
                if stored:
                    parent = above[node]
                    iterated = isinstance(parent, (ast.For, ast.comprehension)) and parent.iter is node
                    taken = isinstance(parent, ast.Call) and isinstance(parent.func, ast.Name) and parent.func.id in TAKERS
                    self.assertTrue(iterated or taken, where)
                if name == "set":
                    parent = above[node]
                    compared = isinstance(parent, ast.Compare) and len(parent.ops) == 1 and isinstance(
                        parent.ops[0], (ast.Eq, ast.NotEq)) and all(
                        isinstance(side, ast.Call) and side.func.id == "set" for side in (parent.left, *parent.comparators))
                    taken = isinstance(parent, ast.Call) and parent.func.id in ("sorted", "len")
                    self.assertTrue(compared or taken, where)

    def test_generators(self):
        names = set()
        for path, node in nodes(ast.FunctionDef):
            if any(isinstance(part, (ast.Yield, ast.YieldFrom)) for part in ast.walk(node)):
                names.add(node.name)
                for part in ast.walk(node):
                    self.assertNotIsInstance(part, (ast.Try, ast.With), self.where(path, part))
                    self.assertFalse(isinstance(part, ast.Return) and part.value, self.where(path, part))
        all_names = [node.name for path, node in nodes(ast.FunctionDef)]
        for name in names:
            self.assertEqual(all_names.count(name), 1)
        for path, tree in TREES.items():
            above = parents(tree)
            for node in ast.walk(tree):
                if isinstance(node, ast.Name) and node.id in names:
                    call = above[node]
                    self.assertTrue(isinstance(call, ast.Call) and call.func is node, self.where(path, node))
                    parent = above[call]
                    iterated = isinstance(parent, (ast.For, ast.comprehension)) and parent.iter is call
                    taken = isinstance(parent, ast.Call) and ast.unparse(parent.func) in ("list", "tuple", "zip")
                    self.assertTrue(iterated or taken or isinstance(parent, ast.YieldFrom), self.where(path, node))
                    for argument in call.args:
                        self.assertIsInstance(argument, (ast.Name, ast.Attribute, ast.Constant, ast.Tuple))

    def test_blocks(self):
        """That `with` stands over own classes, and that what ends a block only assigns attributes."""
        owners = set()
        for owner, method in methods():
            if method.name == "__exit__":
                owners.add(owner.name)
                for part in method.body:
                    self.assertIsInstance(part, ast.Assign)
                    self.assertTrue(all(isinstance(side, ast.Attribute) for side in (part.value, *part.targets)))
        for path, node in nodes(ast.With):
            for part in node.items:
                self.assertIn(part.context_expr.func.id, owners, self.where(path, node))

    def test_properties(self):
        for owner, method in methods():
            if [ast.unparse(decorator) for decorator in method.decorator_list] == ["property"]:
                self.assertEqual(len(method.args.args), 1)
                for part in ast.walk(method):
                    self.assertNotIsInstance(part, (ast.Assign, ast.AugAssign, ast.Call, ast.Delete))

    def test_handlers(self):
        own = {node.name for path, node in nodes(ast.ClassDef)}
        for path, node in nodes(ast.ExceptHandler):
            for kind in node.type.elts if isinstance(node.type, ast.Tuple) else [node.type]:
                self.assertIn(kind.id, own | {"KeyError", "ZeroDivisionError"}, self.where(path, node))

    def test_what_stands_in_finally(self):
        for path, node in nodes(ast.Try):
            for part in node.finalbody:
                self.assertIsInstance(part, ast.Assign, self.where(path, part))
                self.assertIsInstance(part.value, (ast.Name, ast.Attribute), self.where(path, part))

    def test_errors_are_made_where_they_are_raised(self):
        for path, node in nodes(ast.Raise):
            self.assertIsInstance(node.exc, ast.Call, self.where(path, node))
            self.assertIsInstance(node.exc.func, ast.Name, self.where(path, node))


class Interface(unittest.TestCase):
    """That each name of the interface is defined in its own file, and each method in its own class."""

    LISTED = {
        "ratios": {"Ratio": "__init__ read over later __call__ __add__ __radd__ __sub__ __rsub__ __mul__ __rmul__ __neg__"
                            " __pow__ __bool__ __eq__ __str__ __repr__"},
        "samplers": {"Sampler": "__init__ __eq__ __str__ __repr__", "ways": ""},
        "catalog": {"pair": "", "single": "", "fading": "", "last": ""},
        "chances": {"chance": "", "pair_chance": "", "chances": "", "row_chances": ""},
        "players": {"Player": "__init__ feed back twin length row", "Trial": "__init__ __enter__ __exit__",
                    "tried": "", "runs": "", "play": ""},
        "evenness": {"is_even": "", "first_uneven": "", "is_even_in_places": "", "is_even_in_pairs": "",
                     "first_uneven_pairs": ""},
        "formulas": {"follows": "", "first_off": ""},
        "likeness": {"alike": "", "first_apart": "", "alike_in_pairs": ""},
        "costs": {"draws_at": "", "writes_at": "", "draws_later": "", "writes_later": "", "never_more": "",
                  "first_more": ""},
        "joins": {"poured": "", "Join": "__init__ __eq__ __str__ __repr__", "patterns": "", "is_fair": "",
                  "first_unfair": "", "join_rows": ""},
        "gaps": {"fillings": "", "even_fillings": ""},
        "checker": {"holds": ""},
        "certificates": {"certify_even": "", "certify_pairs": "", "certify_apart": "", "certify_join": "",
                         "certify_off": ""},
        "shelves": {"Shelf": "__init__ __setitem__ __getitem__ wish free drop wishes all_or_none back __contains__"
                             " __len__ __repr__"},
    }

    def test_definitions(self):
        for stem, wanted in self.LISTED.items():
            body = {
                node.name: node for node in TREES[FOLDER / f"{stem}.py"].body
                if isinstance(node, (ast.FunctionDef, ast.ClassDef))
            }
            for name, names in wanted.items():
                self.assertIn(name, body)
                if names:
                    found = {part.name for part in body[name].body if isinstance(part, ast.FunctionDef)}
                    self.assertLessEqual(set(names.split()), found, name)


if __name__ == "__main__":
    unittest.main()
