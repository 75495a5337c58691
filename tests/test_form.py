"""The form of the package's files, as far as it can be seen one line or one node at a time."""

import ast
import builtins
import pathlib
import re
import unittest

import lastoflot

FOLDER = pathlib.Path(lastoflot.__file__).parent
FILES = sorted(path for path in FOLDER.rglob("*") if "__pycache__" not in path.parts and path.is_file())
LIBRARY = {
    "heapq": "heappush heappop heapify heapreplace heappushpop",
    "math": "gcd lcm isqrt comb perm factorial",
    "itertools": "product combinations permutations chain accumulate pairwise islice zip_longest",
    "collections": "defaultdict",
    "__future__": "annotations",
}
CALLED = set((
    "len range enumerate zip min max sum abs sorted reversed int str bool list tuple dict set isinstance ord repr any "
    "all divmod pow getattr hasattr setattr map iter next super Exception ValueError TypeError KeyError IndexError "
    "LookupError").split())
METHODS = set((
    "append clear copy count endswith extend find get index insert isalnum isalpha isdigit islower isspace isupper "
    "items join keys ljust lower lstrip partition pop remove replace reverse rfind rjust rpartition rsplit rstrip "
    "setdefault split splitlines startswith strip update upper values zfill bit_length add discard __init__").split())
BARRED_WORDS = set((
    "typing enum Enum namedtuple NamedTuple dataclass overload contextmanager Generic Protocol ABC ABCMeta "
    "abstractmethod TypedDict TYPE_CHECKING global async await yield float complex eval exec globals locals vars "
    "object register mro elements input law version_info with_traceback add_note print").split())
BARRED_NODES = (ast.Global, ast.AsyncFunctionDef, ast.AsyncFor, ast.AsyncWith, ast.Await, ast.Div, ast.MatMult)


def tree_of(path):
    return ast.parse(path.read_text(encoding="utf-8"))


def nodes():
    """All pairs of a file and a node in it."""
    return [(path.name, node) for path in FILES for node in ast.walk(tree_of(path))]


def bound_names(function):
    """The names that a function assigns, its parameters included."""
    names = [arg.arg for arg in ast.walk(function.args) if isinstance(arg, ast.arg)]
    for node in ast.walk(function):
        if isinstance(node, ast.Name) and isinstance(node.ctx, ast.Store):
            names.append(node.id)
    return names


class FormTest(unittest.TestCase):
    def test_files(self):
        for path in FILES:
            self.assertRegex(path.relative_to(FOLDER).as_posix(), r"^[a-z_0-9]+\.py$")
            text = path.read_bytes().decode("utf-8")
            self.assertRegex(text, r"^[ -~\n]*$", path.name)
            lines = text.split("\n")
            self.assertLessEqual(len(lines), 399, path.name)
            self.assertLessEqual(max(map(len, lines)), 120, path.name)
            self.assertEqual([line for line in lines if line != line.rstrip()], [], path.name)

    def test_functions(self):
        for name, node in nodes():
            if isinstance(node, ast.FunctionDef):
                self.assertLessEqual(node.end_lineno - node.lineno + 1, 40, (name, node.name))
                self.assertEqual(node.decorator_list, [], (name, node.name))

    def test_module_level(self):
        allowed = (ast.ImportFrom, ast.FunctionDef, ast.ClassDef, ast.Assign)
        for path in FILES:
            body = tree_of(path).body
            self.assertIsInstance(ast.get_docstring(ast.parse(path.read_text())), str, path.name)
            bound = []
            for node in body[1:]:
                self.assertIsInstance(node, allowed, (path.name, node.lineno))
                if isinstance(node, ast.Assign):
                    self.assertEqual([isinstance(target, ast.Name) for target in node.targets], [True])
                    self.plain_value(node.value, bound)
                    bound.append(node.targets[0].id)
                elif isinstance(node, ast.ImportFrom):
                    bound += [item.name for item in node.names]
                else:
                    bound.append(node.name)
            self.assertEqual(len(bound), len(set(bound)), path.name)
            self.assertEqual([name for name in bound if hasattr(builtins, name)], [], path.name)

    def plain_value(self, value, above):
        """Checks that this is a literal, or a dict from words to functions of the file that are defined above."""
        if isinstance(value, ast.Dict) and value.values and isinstance(value.values[0], ast.Name):
            self.assertLessEqual({part.id for part in value.values}, set(above))
            self.assertEqual({part.value.__class__ for part in value.keys}, {str})
        else:
            ast.literal_eval(value)

    def test_attributes(self):
        methods, attributes = set(), set()
        for name, node in nodes():
            if isinstance(node, ast.ClassDef):
                methods |= {part.name for part in node.body if isinstance(part, ast.FunctionDef)}
            if isinstance(node, ast.Attribute) and isinstance(node.ctx, ast.Store):
                self.assertIsInstance(node.value, ast.Name, name)
                attributes.add(node.attr)
        self.assertEqual(methods & attributes, set())
        self.assertEqual(attributes & set(dir(list) + dir(dict) + dir(str) + dir(int) + dir(set)), set())

    def test_finally(self):
        simple = (ast.Assign, ast.Tuple, ast.Attribute, ast.Name, ast.Load, ast.Store)
        for name, node in nodes():
            if isinstance(node, ast.Try):
                self.assertEqual(node.handlers, [], name)
                for row in node.finalbody:
                    for part in ast.walk(row):
                        self.assertIsInstance(part, simple, (name, row.lineno))

    def test_imports(self):
        graph = {}
        for path in FILES:
            graph[path.stem] = []
            for node in ast.walk(tree_of(path)):
                self.assertNotIsInstance(node, ast.Import, path.name)
                if isinstance(node, ast.ImportFrom):
                    self.right_import(path.name, node)
                    if node.module.startswith("lastoflot."):
                        graph[path.stem].append(node.module.split(".")[1])
        while graph:
            free = [name for name in graph if not set(graph[name]) & set(graph)]
            self.assertNotEqual(free, [], "files import from each other")
            for name in free:
                del graph[name]

    def right_import(self, name, node):
        self.assertEqual(node.level, 0, name)
        self.assertEqual([item.asname for item in node.names if item.asname], [], name)
        if node.module in LIBRARY:
            self.assertLessEqual({item.name for item in node.names}, set(LIBRARY[node.module].split()))
            return
        folder, file = node.module.split(".")
        self.assertEqual(folder, "lastoflot")
        defined = [part.name for part in tree_of(FOLDER / (file + ".py")).body if hasattr(part, "name")]
        defined += [part.targets[0].id for part in tree_of(FOLDER / (file + ".py")).body if isinstance(part, ast.Assign)]
        self.assertLessEqual({item.name for item in node.names}, set(defined), name)

    def test_imports_are_used(self):
        for path in FILES:
            used = {node.id for node in ast.walk(tree_of(path)) if isinstance(node, ast.Name)}
            for node in tree_of(path).body:
                if isinstance(node, ast.ImportFrom):
                    self.assertLessEqual({item.name for item in node.names}, used, path.name)

    def test_nodes(self):
        for name, node in nodes():
            self.assertNotIsInstance(node, BARRED_NODES, name)
            if isinstance(node, ast.Constant):
                self.assertNotIsInstance(node.value, (float, complex), name)
                if isinstance(node.value, str):
                    self.assertNotIn("%", node.value, name)
            if isinstance(node, ast.BinOp) and isinstance(node.op, ast.Pow):
                self.assertIsInstance(node.right, ast.Constant, name)

    def test_local_names(self):
        for path in FILES:
            tree = tree_of(path)
            taken = {item.name for node in tree.body if isinstance(node, ast.ImportFrom) for item in node.names}
            taken |= {node.name for node in tree.body if isinstance(node, (ast.ClassDef, ast.FunctionDef))}
            for node in ast.walk(tree):
                if isinstance(node, (ast.FunctionDef, ast.Lambda)):
                    for name in bound_names(node):
                        self.assertNotIn(name, taken, path.name)
                        self.assertFalse(hasattr(builtins, name), (path.name, name))
                        self.assertRegex(name, r"^([A-Za-z][A-Za-z0-9_]*|_)$")

    def test_calls(self):
        own = {node.name for _, node in nodes() if isinstance(node, (ast.FunctionDef, ast.ClassDef))}
        library = set(" ".join(LIBRARY.values()).split())
        for name, node in nodes():
            if isinstance(node, ast.Call) and isinstance(node.func, ast.Name):
                if hasattr(builtins, node.func.id):
                    self.assertIn(node.func.id, CALLED, name)
            if isinstance(node, ast.Call) and isinstance(node.func, ast.Attribute):
                self.assertIn(node.func.attr, METHODS | own | library, (name, node.lineno))

    def test_words(self):
        for path in FILES:
            tree = tree_of(path)
            words = set()
            for node in ast.walk(tree):
                for field in ("id", "attr", "arg", "name"):
                    words.add(getattr(node, field, None))
            self.assertEqual(words & BARRED_WORDS, set(), path.name)
            self.assertIsNone(re.search(r"\b_(wall|pe_|dcw_|enum_|cm_|stub_)", path.read_text()), path.name)

    def test_no_generator_expressions(self):
        for name, node in nodes():
            if isinstance(node, ast.GeneratorExp):
                self.fail((name, node.lineno))
