"""Rules of LANGUAGE.md that a look at the files of the package can check, and where the interface is defined."""

import ast
import builtins
import re
import unittest
import warnings
from pathlib import Path

PACKAGE = Path(__file__).resolve().parent.parent / "doubtwell"
BARRED = (
    "type typing typing_extensions enum Enum IntEnum StrEnum Flag IntFlag Generic Protocol ABC ABCMeta "
    "namedtuple NamedTuple TypedDict TYPE_CHECKING abstractmethod"
).split()
BARRED_PARTS = ["dataclass", "overload", "contextmanager"]
BUILTINS = (
    "len range enumerate zip min max sum abs sorted reversed int str bool bytes list tuple dict set isinstance ord "
    "repr any all divmod iter next super"
).split()
DEFINED = {
    "errors": (
        "QueryError InvalidFraction InvalidIntervals InvalidName DuplicateName CapacityExceeded InvalidBounds "
        "InvalidPrice InvalidQuery InvalidText InvalidValue Uncertain LimitExceeded NoHistory NotFound UnknownItem "
        "MissingValue"
    ).split(),
    "rationals": ["rational", "less", "midpoint"],
    "intervals": ["reveal"],
    "queries": ["is_certain", "answer"],
    "witnesses": ["required_items", "witness_pairs"],
    "probing": ["resolve", "all_certain"],
    "certificates": ["check_log", "log_totals"],
    "optimum": ["cheapest", "proven_bound"],
    "subsets": ["is_sufficient", "cheapest_subset", "conflicting_scenarios"],
    "scenarios": ["scenarios", "worst_case"],
    "adversary": ["hard_instance", "adversary_values", "probe_in_order"],
    "store": ["Store"],
    "query_text": ["format_query", "format_queries", "parse_queries"],
}
METHODS = (
    "append clear copy count endswith extend find get index insert isalnum isalpha isdigit islower isspace isupper "
    "items join keys ljust lower lstrip partition pop remove replace reverse rfind rjust rpartition rsplit rstrip "
    "setdefault split splitlines startswith strip update upper values zfill bit_length "
    "title capitalize swapcase casefold center expandtabs removeprefix removesuffix rindex isascii isdecimal isnumeric "
    "istitle isidentifier isprintable"
).split()


def sources():
    return sorted(PACKAGE.glob("*.py"))


def parsed(path):
    return ast.parse(path.read_text(encoding="utf-8"))


class Language(unittest.TestCase):
    def test_the_folder_holds_only_sources(self):
        names = [path.name for path in PACKAGE.iterdir() if path.name != "__pycache__"]
        self.assertIn("__init__.py", names)
        for name in names:
            self.assertRegex(name, r"\A[a-z0-9_]+\.py\Z")

    def test_characters_and_sizes(self):
        for path in sources():
            with self.subTest(path.name):
                text = path.read_text(encoding="utf-8")
                self.assertRegex(text, r"\A[ -~\n]*\Z")
                self.assertLessEqual(len(text.splitlines()), 399)
                self.assertLessEqual(max(len(line) for line in text.splitlines()), 120)

    def test_functions_are_short(self):
        for path in sources():
            with self.subTest(path.name):
                for node in ast.walk(parsed(path)):
                    if isinstance(node, ast.FunctionDef):
                        self.assertLessEqual(node.end_lineno - node.lineno + 1, 40, node.name)

    def test_barred_words(self):
        for path in sources():
            with self.subTest(path.name):
                text = path.read_text(encoding="utf-8")
                words = set(re.findall(r"\w+", text))
                self.assertEqual(words & set(BARRED), set())
                self.assertEqual([part for part in BARRED_PARTS if part in text], [])

    def test_imports_name_modules_of_the_package(self):
        for path in sources():
            with self.subTest(path.name):
                for node in ast.walk(parsed(path)):
                    self.assertNotIsInstance(node, ast.Import)
                    if isinstance(node, ast.ImportFrom):
                        self.assertEqual(node.level, 0)
                        self.assertRegex(node.module, r"\Adoubtwell\.[a-z_]+\Z")
                        self.assertNotIn("*", [alias.name for alias in node.names])

    def test_imports_go_one_way(self):
        found = {path.stem: imported(path) for path in sources()}
        while found:
            free = [name for name in found if not found[name] & set(found)]
            self.assertNotEqual(free, [], "files import from each other")
            for name in free:
                del found[name]

    def test_no_warning(self):
        for path in sources():
            with self.subTest(path.name):
                with warnings.catch_warnings():
                    warnings.simplefilter("error")
                    compile(path.read_text(encoding="utf-8"), path.name, "exec")

    def test_plain_expressions(self):
        for path in sources():
            with self.subTest(path.name):
                for node in ast.walk(parsed(path)):
                    self.assertNotIsInstance(node, (ast.Div, ast.Global, ast.AsyncFunctionDef))
                    if isinstance(node, ast.Constant):
                        self.assertNotIsInstance(node.value, (float, complex))
                        self.assertFalse(isinstance(node.value, str) and "%" in node.value)
                    if isinstance(node, ast.Compare) and isinstance(node.ops[0], (ast.Is, ast.IsNot)):
                        self.assertIsInstance(node.comparators[0], ast.Constant)

    def test_plain_names_and_builtins(self):
        for path in sources():
            with self.subTest(path.name):
                tree = parsed(path)
                for node in ast.walk(tree):
                    if isinstance(node, ast.Name):
                        self.assertFalse(node.id.startswith("_"), node.id)
                    if isinstance(node, ast.Call) and isinstance(node.func, ast.Name):
                        self.assertIn(node.func.id, BUILTINS + bound_names(tree))

    def test_methods_of_builtin_values(self):
        for path in sources():
            with self.subTest(path.name):
                tree = parsed(path)
                for node in ast.walk(tree):
                    if isinstance(node, ast.Call) and isinstance(node.func, ast.Attribute):
                        self.assertIn(node.func.attr, METHODS + bound_names(tree) + ["__init__"])

    def test_no_local_name_hides_an_import_or_a_builtin(self):
        for path in sources():
            with self.subTest(path.name):
                tree = parsed(path)
                taken = set(imported_names(tree)) | set(dir(builtins))
                self.assertEqual(taken & set(local_names(tree)), set())

    def test_every_import_is_used(self):
        for path in sources():
            with self.subTest(path.name):
                tree = parsed(path)
                used = {node.id for node in ast.walk(tree) if isinstance(node, ast.Name)}
                self.assertEqual(set(imported_names(tree)) - used, set())

    def test_no_generators(self):
        for path in sources():
            with self.subTest(path.name):
                for node in ast.walk(parsed(path)):
                    self.assertNotIsInstance(node, (ast.GeneratorExp, ast.Yield, ast.YieldFrom))

    def test_module_level(self):
        for path in sources():
            with self.subTest(path.name):
                names = []
                for node in parsed(path).body[1:]:
                    self.assertIsInstance(node, (ast.ImportFrom, ast.FunctionDef, ast.ClassDef, ast.Assign))
                    if isinstance(node, ast.Assign):
                        ast.literal_eval(node.value)
                        self.assertEqual([type(target) for target in node.targets], [ast.Name])
                        names.append(node.targets[0].id)
                    elif not isinstance(node, ast.ImportFrom):
                        names.append(node.name)
                names += imported_names(parsed(path))
                self.assertEqual(len(set(names)), len(names))

    def test_sets_are_used_at_once(self):
        for path in sources():
            tree = parsed(path)
            allowed = []
            for node in ast.walk(tree):
                if isinstance(node, ast.Call) and isinstance(node.func, ast.Name) and node.func.id in ("len", "sorted"):
                    allowed += node.args
            for node in ast.walk(tree):
                self.assertNotIsInstance(node, (ast.Set, ast.SetComp))
                if isinstance(node, ast.Call) and isinstance(node.func, ast.Name) and node.func.id == "set":
                    self.assertIn(node, allowed, path.name)

    def test_no_name_is_a_method_and_an_attribute(self):
        methods, attributes = set(), set()
        for path in sources():
            for node in ast.walk(parsed(path)):
                if isinstance(node, ast.ClassDef):
                    methods |= {part.name for part in node.body if isinstance(part, ast.FunctionDef)}
                if isinstance(node, ast.Attribute) and isinstance(node.ctx, ast.Store):
                    attributes.add(node.attr)
        self.assertEqual(methods & attributes, set())
        self.assertIn("capacity", attributes)

    def test_statements(self):
        barred = (ast.Try, ast.With, ast.Match, ast.Lambda, ast.NamedExpr, ast.AnnAssign, ast.Delete, ast.Nonlocal)
        for path in sources():
            with self.subTest(path.name):
                for node in ast.walk(parsed(path)):
                    self.assertNotIsInstance(node, barred)
                    if isinstance(node, ast.FunctionDef):
                        self.assertEqual(node.decorator_list, [])
                        nested = [part for part in ast.walk(node) if isinstance(part, ast.FunctionDef)]
                        self.assertEqual(nested, [node])

    def test_the_interface_is_defined_in_its_files(self):
        for stem, names in DEFINED.items():
            tree = parsed(PACKAGE / f"{stem}.py")
            defined = [node.name for node in tree.body if isinstance(node, (ast.FunctionDef, ast.ClassDef))]
            self.assertEqual([name for name in names if name not in defined], [])


def imported(path):
    nodes = [node for node in ast.walk(parsed(path)) if isinstance(node, ast.ImportFrom)]
    return {node.module.split(".")[-1] for node in nodes}


def imported_names(tree):
    nodes = [node for node in ast.walk(tree) if isinstance(node, ast.ImportFrom)]
    return [alias.asname or alias.name for node in nodes for alias in node.names]


def local_names(tree):
    """Parameters and the targets of assignments, loops and comprehensions."""
    nodes = list(ast.walk(tree))
    targets = [node.id for node in nodes if isinstance(node, ast.Name) and isinstance(node.ctx, ast.Store)]
    return targets + [node.arg for node in nodes if isinstance(node, ast.arg)]


def bound_names(tree):
    names = []
    for node in ast.walk(tree):
        if isinstance(node, (ast.FunctionDef, ast.ClassDef)):
            names.append(node.name)
        if isinstance(node, ast.ImportFrom):
            names += [alias.asname or alias.name for alias in node.names]
        if isinstance(node, ast.Name) and isinstance(node.ctx, ast.Store):
            names.append(node.id)
    return names


if __name__ == "__main__":
    unittest.main()
