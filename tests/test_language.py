"""The package keeps to its small subset of Python, as far as these plain checks can see."""
import ast
import builtins
import pathlib
import re
import unittest

FOLDER = pathlib.Path(__file__).resolve().parent.parent / "lotback"
FILES = sorted(FOLDER.glob("*.py"))

BUILTINS = set("""len range enumerate zip min max sum abs sorted reversed int str bool list tuple dict set isinstance
 ord repr any all divmod iter next super property classmethod staticmethod ValueError KeyError NotImplemented""".split())
METHODS = set("""append clear copy count endswith extend find get index insert isalnum isalpha isdigit islower isspace
 isupper items join keys ljust lower lstrip partition pop remove replace reverse rfind rjust rpartition rsplit rstrip
 setdefault split splitlines startswith strip update upper values zfill bit_length add discard""".split())
DUNDERS = set("""__init__ __eq__ __repr__ __str__ __len__ __iter__ __getitem__ __contains__ __add__ __call__""".split())
BARRED = (ast.Global, ast.AsyncFunctionDef, ast.Await, ast.GeneratorExp, ast.Match, ast.With, ast.Div, ast.Import,
          ast.Lambda, ast.AnnAssign)
NOT_NAMES = set("register mro elements open input law exit help id type vars dir sys os compile license".split())
NOT_WORDS = ("type", "typing", "enum", "Enum", "Generic", "Protocol", "namedtuple", "dataclass", "overload",
             "contextmanager", "_wall", "Meta")


def names_bound(tree):
    """All names that a tree binds: variables, parameters, functions, classes."""
    for node in ast.walk(tree):
        if isinstance(node, ast.Name) and isinstance(node.ctx, ast.Store):
            yield node.id
        elif isinstance(node, ast.arg):
            yield node.arg
        elif isinstance(node, (ast.FunctionDef, ast.ClassDef)):
            yield node.name


def functions_in(tree):
    return [node for node in ast.walk(tree) if isinstance(node, ast.FunctionDef)]


def methods_in(tree):
    """The functions that stand in the classes of a tree, by name."""
    return {node.name: node for cls in ast.walk(tree) if isinstance(cls, ast.ClassDef) for node in cls.body
            if isinstance(node, ast.FunctionDef)}


def is_generator(function):
    """Whether a function yields."""
    return any(isinstance(part, (ast.Yield, ast.YieldFrom)) for part in ast.walk(function))


MODIFYING = set("append clear extend insert pop remove reverse setdefault update add discard".split())


def walked_by(iterated):
    """What a loop walks, as written: names, attributes and items, also through enumerate and its kin."""
    if isinstance(iterated, ast.IfExp):
        return walked_by(iterated.body) | walked_by(iterated.orelse)
    if isinstance(iterated, ast.BoolOp):
        return set().union(*[walked_by(part) for part in iterated.values])
    if isinstance(iterated, ast.Call) and isinstance(iterated.func, ast.Name) and iterated.func.id in ("enumerate", "zip", "reversed"):
        return set().union(*[walked_by(part) for part in iterated.args])
    if isinstance(iterated, ast.Call) and isinstance(iterated.func, ast.Attribute) and iterated.func.attr in ("items", "keys", "values"):
        return walked_by(iterated.func.value)
    if isinstance(iterated, (ast.Name, ast.Attribute, ast.Subscript)):
        return {ast.unparse(iterated)}
    return set()


def modified_in(node):
    """What the rows of a loop modify, as written."""
    for part in ast.walk(node):
        if isinstance(part, ast.Call) and isinstance(part.func, ast.Attribute) and part.func.attr in MODIFYING:
            yield ast.unparse(part.func.value)
        elif isinstance(part, ast.Subscript) and not isinstance(part.ctx, ast.Load):
            yield ast.unparse(part.value)
        elif isinstance(part, ast.AugAssign):
            yield ast.unparse(part.target)


def same_things(function):
    """A dict: of each name or attribute those that are assigned it in a function, or that it is assigned."""
    same = {}
    for part in ast.walk(function):
        if isinstance(part, ast.Assign) and isinstance(part.value, (ast.Name, ast.Attribute, ast.Subscript)):
            group = {ast.unparse(side) for side in (part.value, *part.targets)}
            group = group.union(*[same.get(side, set()) for side in group])
            for side in group:
                same[side] = group
    return same


def is_plain_assignment(row):
    """Whether a row assigns a name, an attribute or a literal to one name or attribute: without + and -."""
    return (isinstance(row, ast.Assign) and len(row.targets) == 1 and isinstance(row.targets[0], (ast.Name, ast.Attribute))
            and isinstance(row.value, (ast.Name, ast.Attribute, ast.Constant)))


def wrong_in_finally(tree):
    """Yield the lines of those rows of each finally that do more than assign, or read what is not told ahead of the try."""
    for function in functions_in(tree):
        for node in ast.walk(function):
            if isinstance(node, ast.Try):
                told = {part.arg for part in ast.walk(function.args) if isinstance(part, ast.arg)}
                told.update(part.id for part in ast.walk(function)
                            if isinstance(part, ast.Name) and isinstance(part.ctx, ast.Store) and part.lineno < node.lineno)
                for row in node.finalbody:
                    read = {part.id for part in ast.walk(row) if isinstance(part, ast.Name) and isinstance(part.ctx, ast.Load)}
                    if not is_plain_assignment(row) or read - told:
                        yield row.lineno


class Language(unittest.TestCase):
    def setUp(self):
        self.texts = {path.stem: path.read_text(encoding="utf-8") for path in FILES}
        self.trees = {name: ast.parse(text) for name, text in self.texts.items()}

    def each_node(self):
        for name, tree in self.trees.items():
            for node in ast.walk(tree):
                yield f"{name}:{getattr(node, 'lineno', 0)}", node

    def test_files(self):
        others = [path.name for path in FOLDER.iterdir() if path.suffix != ".py" and path.name != "__pycache__"]
        self.assertEqual(others, [])
        for name, text in self.texts.items():
            self.assertRegex(name, r"^[a-z_]+$")
            self.assertLessEqual(len(text.splitlines()), 399, name)
            self.assertLessEqual(max(map(len, text.splitlines())), 120, name)
            self.assertRegex(text, r"\A[\n -~]+\Z", name)
            for word in NOT_WORDS:
                self.assertIsNone(re.search(rf"\b{word}\b", text), (name, word))

    def test_functions_are_short(self):
        for name, tree in self.trees.items():
            for node in functions_in(tree):
                self.assertLessEqual(node.end_lineno - node.lineno + 1, 40, (name, node.name))

    def test_barred_nodes(self):
        for where, node in self.each_node():
            self.assertNotIsInstance(node, BARRED, where)
            if isinstance(node, ast.Constant):
                self.assertNotIsInstance(node.value, (float, complex), where)
                self.assertNotIn("%", node.value if isinstance(node.value, str) else "", where)

    def test_imports_name_the_defining_file_without_a_circle(self):
        above = {}
        for name, tree in self.trees.items():
            above[name] = []
            for node in ast.walk(tree):
                if isinstance(node, ast.ImportFrom):
                    self.assertTrue(node.module.startswith("lotback."), name)
                    stem = node.module[len("lotback."):]
                    above[name].append(stem)
                    told = set(names_bound(self.trees[stem]))
                    for part in node.names:
                        self.assertIsNone(part.asname)
                        self.assertIn(part.name, told, name)
        while above:
            free = [name for name, below in above.items() if not any(stem in above for stem in below)]
            self.assertTrue(free, above)
            above = {name: below for name, below in above.items() if name not in free}

    def test_imports_are_used_and_not_hidden(self):
        for name, tree in self.trees.items():
            imported = [part.name for node in tree.body if isinstance(node, ast.ImportFrom) for part in node.names]
            used = {node.id for node in ast.walk(tree) if isinstance(node, ast.Name)}
            self.assertEqual([part for part in imported if part not in used], [], name)
            # A method may have the name of what is imported.
            self.assertEqual(set(imported) & (set(names_bound(tree)) - set(methods_in(tree))), set(), name)

    def test_names(self):
        for name, tree in self.trees.items():
            methods = set(methods_in(tree))
            for bound in names_bound(tree):
                self.assertTrue(bound in DUNDERS or re.match(r"^_?[A-Za-z][A-Za-z0-9_]*$|^_$", bound), (name, bound))
                self.assertNotIn(bound, NOT_NAMES, name)
                if bound not in methods:
                    self.assertFalse(hasattr(builtins, bound), (name, bound))

    def test_builtins_and_methods(self):
        own = {node.name for _, node in self.each_node() if isinstance(node, ast.FunctionDef)}
        for where, node in self.each_node():
            if isinstance(node, ast.Name) and hasattr(builtins, node.id):
                self.assertIn(node.id, BUILTINS, where)
            if isinstance(node, ast.Call) and isinstance(node.func, ast.Attribute):
                self.assertIn(node.func.attr, METHODS | own | {"__init__"}, where)

    def test_is_with_none_alone(self):
        for where, node in self.each_node():
            if isinstance(node, ast.Compare) and any(isinstance(op, (ast.Is, ast.IsNot)) for op in node.ops):
                side = node.comparators[0]
                self.assertTrue(isinstance(side, ast.Constant) and side.value in (None, True, False), where)

    def test_sets_are_sorted_or_measured_at_once(self):
        for where, node in self.each_node():
            for child in ast.iter_child_nodes(node):
                stored = isinstance(child, (ast.Set, ast.SetComp))
                called = isinstance(child, ast.Call) and isinstance(child.func, ast.Name) and child.func.id == "set"
                if stored or called:
                    self.assertIsInstance(node, ast.Call, where)
                    self.assertIn(node.func.id, ("sorted", "len"), where)

    def test_stars_in_calls_stand_before_names(self):
        for where, node in self.each_node():
            if isinstance(node, ast.Call):
                for part in node.args:
                    if isinstance(part, ast.Starred):
                        self.assertIsInstance(part.value, (ast.Name, ast.Attribute), where)

    def test_what_a_loop_walks_is_not_changed_in_it(self):
        for name, tree in self.trees.items():
            for function in functions_in(tree):
                same = same_things(function)
                for node in ast.walk(function):
                    if isinstance(node, ast.For):
                        walked = walked_by(node.iter)
                        walked = walked.union(*[same.get(thing, set()) for thing in walked])
                        changed = {thing for row in node.body for thing in modified_in(row)}
                        self.assertEqual(walked & changed, set(), f"{name}:{node.lineno}")

    def test_names_of_properties_are_not_those_of_methods(self):
        decorated, plain, stored = set(), set(), set()
        for _, node in self.each_node():
            if isinstance(node, ast.ClassDef):
                for part in node.body:
                    if isinstance(part, ast.FunctionDef):
                        names = [name.id for name in part.decorator_list]
                        (decorated if "property" in names else plain).add(part.name)
            if isinstance(node, ast.Attribute) and isinstance(node.ctx, ast.Store):
                stored.add(node.attr)
        self.assertEqual(decorated & (plain | stored | METHODS), set())
        self.assertEqual(plain & stored, set())

    def test_names_of_generators_are_those_of_generators_alone(self):
        functions = [node for tree in self.trees.values() for node in functions_in(tree)]
        generators = {node.name for node in functions if is_generator(node)}
        self.assertEqual([node.name for node in functions if node.name in generators and not is_generator(node)], [])
        self.assertEqual(generators & METHODS, set())

    def test_finally_only_assigns_what_was_told_ahead(self):
        for name, tree in self.trees.items():
            self.assertEqual(list(wrong_in_finally(tree)), [], name)

    def test_wrong_rows_of_a_finally_are_seen(self):
        head = "def go(self, k):\n    much = 1\n    try:\n        late = 2\n    finally:\n        "
        for row in ["self.n = much", "self.n = k", "self.n = self.much", "self.n = 1"]:
            self.assertEqual(list(wrong_in_finally(ast.parse(head + row))), [], row)
        for row in ["self.n += 1", "self.n -= 1", "self.n = self.n + 1", "self.n = much - 1", "self.n = late", "self.n = other", "self.go(1)", "self.n = self.n2 = 1",
                    "self.n = -1", "if much: self.n = 1", "return much", "self.ns[0] = 1", "n: int = 1"]:
            self.assertEqual(list(wrong_in_finally(ast.parse(head + row))), [6], row)

    def test_docstrings(self):
        for name, tree in self.trees.items():
            self.assertTrue(ast.get_docstring(tree), name)
            for node in functions_in(tree):
                self.assertTrue(node.name in DUNDERS or ast.get_docstring(node), (name, node.name))
