"""The package keeps to the subset of Python that it is written in, as far as a look at its files can tell."""

import ast
import builtins
import pathlib
import re
import unittest
import warnings

PACKAGE = pathlib.Path(__file__).resolve().parent.parent / "fewturnsover"
BUILTINS = set("""len range enumerate zip min max sum abs sorted reversed int str bool bytes list tuple dict set frozenset
    isinstance ord repr any all divmod Exception ValueError TypeError KeyError IndexError LookupError ZeroDivisionError
    ArithmeticError OverflowError RuntimeError NotImplementedError AttributeError StopIteration NotImplemented iter next
    super property staticmethod classmethod""".split())
METHODS = set("""append clear copy count endswith extend find get index insert isalnum isalpha isdigit islower isspace isupper
    items join keys ljust lower lstrip partition pop remove replace reverse rfind rjust rpartition rsplit rstrip setdefault split
    splitlines startswith strip update upper values zfill bit_length isascii add discard""".split())
BARRED_WORDS = set("""type typing typing_extensions enum Enum IntEnum StrEnum Flag IntFlag Generic Protocol ABC ABCMeta namedtuple
    NamedTuple TypedDict TYPE_CHECKING abstractmethod""".split())
BARRED_NAMES = set("""register mro elements open input law version_info with_traceback add_note attrgetter breakpoint builtins
    compile copyright credits delattr dir eval exec exit gc getattr globals hasattr help id importlib license locals methodcaller
    os quit setattr type vars sys format format_map""".split())
BARRED_ATTRIBUTES = set("""items keys values pop update append clear extend insert remove reverse setdefault sort args encode decode
    hex fromhex format""".split())
DUNDERS = {"__init__", "__eq__", "__repr__", "__str__", "__len__", "__call__", "__iter__", "__enter__", "__exit__"}
STATEMENTS = (ast.Assign, ast.AugAssign, ast.If, ast.While, ast.For, ast.Return, ast.Break, ast.Continue, ast.Pass, ast.Raise,
              ast.Assert, ast.Delete, ast.Try, ast.Expr, ast.FunctionDef, ast.ClassDef, ast.ImportFrom)
AT_ONCE = ("range", "enumerate", "zip", "reversed")
INTERFACE = {
    "errors": "TurnsError NoProgram NoRun NoStand NoMachine NoLimit NoOrder NoText NoRow NoHand NoPoint NoChoice NoName TooMany Bare",
    "names": "is_whole is_name",
    "programs": "look_at_program hands_of first_hands like_hands row_at",
    "stands": "first_stand is_stand steps fault_at",
    "walker": "Walker",
    "runs": "stands_of is_faulty put_together",
    "machines": "is_machine reads controls_of least_pile",
    "least": "least",
    "pairs": "lets_pairs inside",
    "closing": "is_closed",
    "growing": "grown fault_in stretch",
    "limits": "is_limit limit_of less covers is_within",
    "books": "lets_book",
    "told": "told least_turns",
    "folding": "looked_at",
    "endless": "endless",
    "onehand": "one_hand led_back",
    "tables": "table_of joined",
    "keeper": "Keeper",
    "texts": "shown shown_run read read_run",
    "desk": "Desk",
}
IN_CLASSES = {
    ("walker", "Walker"): "step back stand turns twin __eq__ __len__",
    ("keeper", "Keeper"): "raise_turns change back ask kept made turns program twin __eq__ __len__",
    ("desk", "Desk"): "say __len__",
}


def files():
    return sorted(path for path in PACKAGE.rglob("*") if "__pycache__" not in path.parts)


def trees():
    return [(path, ast.parse(path.read_text())) for path in files()]


def all_nodes():
    return [(path, node) for path, tree in trees() for node in ast.walk(tree)]


def nodes_of(kind):
    return [(path, node) for path, node in all_nodes() if isinstance(node, kind)]


def names_in(arguments):
    return [arg.arg for arg in arguments.posonlyargs + arguments.args + arguments.kwonlyargs]


class Files(unittest.TestCase):
    def test_plain_files(self):
        for path in files():
            self.assertRegex(path.name, r"\A(__init__|[a-z][a-z0-9_]*)\.py\Z")
            self.assertNotIn(path.stem, dir(builtins))
            self.assertFalse(path.stem.startswith(("test", "law_", "conftest", "site")))

    def test_sizes(self):
        for path in files():
            lines = path.read_text().split("\n")
            self.assertLessEqual(len(lines), 399, path.name)
            self.assertLessEqual(max(map(len, lines)), 120, path.name)

    def test_signs(self):
        for path in files():
            self.assertRegex(path.read_text(), r"\A[\n -~]*\Z", path.name)

    def test_words(self):
        for path in files():
            words = set(re.findall(r"\w+", path.read_text()))
            self.assertEqual(words & BARRED_WORDS, set(), path.name)
            self.assertEqual(re.findall("dataclass|overload|contextmanager", path.read_text()), [], path.name)

    def test_no_warnings(self):
        with warnings.catch_warnings():
            warnings.simplefilter("error")
            for path in files():
                compile(path.read_text(), path.name, "exec")

    def test_functions_are_small(self):
        for path, node in nodes_of(ast.FunctionDef):
            self.assertLessEqual(node.end_lineno - node.lineno + 1, 40, node.name)


class Interface(unittest.TestCase):
    def test_all_is_defined_in_its_file(self):
        for stem, words in INTERFACE.items():
            tree = ast.parse((PACKAGE / (stem + ".py")).read_text())
            defined = [node.name for node in tree.body if isinstance(node, (ast.FunctionDef, ast.ClassDef))]
            self.assertLessEqual(set(words.split()), set(defined), stem)

    def test_all_methods_are_defined_in_their_classes(self):
        for (stem, name), words in IN_CLASSES.items():
            tree = ast.parse((PACKAGE / (stem + ".py")).read_text())
            found = [node for node in tree.body if isinstance(node, ast.ClassDef) and node.name == name][0]
            defined = [node.name for node in found.body if isinstance(node, ast.FunctionDef)]
            self.assertLessEqual(set(words.split()), set(defined), stem)


class Imports(unittest.TestCase):
    def test_full_names_of_what_the_file_defines(self):
        defined = {path.stem: [node.name for node in tree.body if isinstance(node, (ast.FunctionDef, ast.ClassDef))]
                   + [node.targets[0].id for node in tree.body if isinstance(node, ast.Assign)] for path, tree in trees()}
        self.assertEqual(nodes_of(ast.Import), [])
        for path, node in nodes_of(ast.ImportFrom):
            self.assertEqual(node.level, 0)
            package, stem = node.module.split(".")
            self.assertEqual(package, "fewturnsover")
            for alias in node.names:
                self.assertIn(alias.name, defined[stem])
                self.assertIsNone(alias.asname)

    def test_no_rings(self):
        needs = {path.stem: [] for path in files()}
        for path, node in nodes_of(ast.ImportFrom):
            needs[path.stem].append(node.module.split(".")[1])
        while needs:
            free = [stem for stem in needs if not any(other in needs for other in needs[stem])]
            self.assertNotEqual(free, [], needs)
            for stem in free:
                del needs[stem]

    def test_all_imports_are_used(self):
        for path, tree in trees():
            used = {node.id for node in ast.walk(tree) if isinstance(node, ast.Name)}
            brought = {alias.name for node in tree.body if isinstance(node, ast.ImportFrom) for alias in node.names}
            self.assertLessEqual(brought, used, path.name)

    def test_imports_stand_at_the_top(self):
        for path, tree in trees():
            kinds = [isinstance(node, ast.ImportFrom) for node in tree.body[1:]]
            self.assertEqual(kinds, sorted(kinds, reverse=True), path.name)


class ModuleLevel(unittest.TestCase):
    def test_statements(self):
        for path, tree in trees():
            self.assertIsNotNone(ast.get_docstring(tree), path.name)
            for node in tree.body[1:]:
                self.assertIsInstance(node, (ast.ImportFrom, ast.FunctionDef, ast.ClassDef, ast.Assign), path.name)
                if isinstance(node, ast.Assign):
                    self.assertIsInstance(node.targets[0], ast.Name)
                    parts = (ast.Constant, ast.Name, ast.Tuple, ast.List, ast.Dict, ast.Load)
                    for part in ast.walk(node.value):
                        self.assertIsInstance(part, parts, path.name)

    def test_each_name_once(self):
        for path, tree in trees():
            bound = []
            for node in tree.body:
                if isinstance(node, ast.ImportFrom):
                    bound.extend(alias.name for alias in node.names)
                elif isinstance(node, (ast.FunctionDef, ast.ClassDef)):
                    bound.append(node.name)
                elif isinstance(node, ast.Assign):
                    bound.append(node.targets[0].id)
            self.assertEqual(len(bound), len(set(bound)), path.name)


class Names(unittest.TestCase):
    def test_plain_and_free(self):
        for path, node in all_nodes():
            found = []
            if isinstance(node, ast.Name) and isinstance(node.ctx, ast.Store):
                found = [node.id]
            elif isinstance(node, (ast.FunctionDef, ast.ClassDef)):
                found = [] if node.name in DUNDERS else [node.name]
            elif isinstance(node, ast.arguments):
                found = names_in(node)
            for name in found:
                self.assertRegex(name, r"\A[A-Za-z][A-Za-z0-9_]*\Z", path.name)
                self.assertNotIn(name, dir(builtins), path.name)
                self.assertNotIn(name, BARRED_NAMES, path.name)

    def test_no_local_name_is_an_import_or_a_class(self):
        for path, tree in trees():
            taken = {alias.name for node in tree.body if isinstance(node, ast.ImportFrom) for alias in node.names}
            taken |= {node.name for node in tree.body if isinstance(node, ast.ClassDef)}
            for node in ast.walk(tree):
                if isinstance(node, ast.Name) and isinstance(node.ctx, ast.Store):
                    self.assertNotIn(node.id, taken, path.name)
                elif isinstance(node, ast.arguments):
                    self.assertEqual(taken & set(names_in(node)), set(), path.name)

    def test_builtins(self):
        known = set(dir(builtins))
        for path, node in nodes_of(ast.Name):
            if node.id in known:
                self.assertIn(node.id, BUILTINS, path.name)

    def test_attributes_and_methods(self):
        own, stored = set(), set()
        for path, node in nodes_of(ast.ClassDef):
            own |= {part.name for part in node.body if isinstance(part, ast.FunctionDef)}
        for path, node in nodes_of(ast.Attribute):
            if isinstance(node.ctx, ast.Store):
                stored.add(node.attr)
        self.assertEqual(own & stored, set())
        self.assertEqual(stored & (BARRED_ATTRIBUTES | BARRED_NAMES), set())
        for path, node in nodes_of(ast.Attribute):
            if isinstance(node.ctx, ast.Load):
                self.assertIn(node.attr, own | stored | METHODS, path.name)


class Code(unittest.TestCase):
    def test_statements(self):
        for path, node in nodes_of(ast.stmt):
            self.assertIsInstance(node, STATEMENTS, path.name)

    def test_barred_expressions(self):
        barred = (ast.GeneratorExp, ast.Await, ast.Yield, ast.YieldFrom, ast.NamedExpr, ast.Starred, ast.Div, ast.MatMult, ast.Pow)
        for path, node in all_nodes():
            self.assertNotIsInstance(node, barred, path.name)
            if isinstance(node, ast.Constant):
                self.assertNotIsInstance(node.value, (float, complex, bytes), path.name)
                if isinstance(node.value, str):
                    self.assertNotIn("%", node.value)

    def test_is_stands_only_beside_none_true_and_false(self):
        for path, node in nodes_of(ast.Compare):
            for sign, other in zip(node.ops, node.comparators):
                if isinstance(sign, (ast.Is, ast.IsNot)):
                    self.assertIsInstance(other, ast.Constant, path.name)
                    self.assertIn(other.value, (None, True, False), path.name)

    def test_no_decorators_annotations_or_places_only(self):
        for path, node in nodes_of(ast.FunctionDef):
            self.assertEqual(node.decorator_list, [], node.name)
            self.assertIsNone(node.returns)
            self.assertEqual(node.args.posonlyargs, [])
            for arg in node.args.args + node.args.kwonlyargs:
                self.assertIsNone(arg.annotation)

    def test_sets_stand_where_they_may(self):
        for path, tree in trees():
            around = {id(child): node for node in ast.walk(tree) for child in ast.iter_child_nodes(node)}
            for node in ast.walk(tree):
                makes = isinstance(node, ast.Call) and isinstance(node.func, ast.Name) and node.func.id == "set"
                if makes or isinstance(node, (ast.Set, ast.SetComp)):
                    outer = around[id(node)]
                    self.assertIsInstance(outer, ast.Call, path.name)
                    self.assertIn(outer.func.id, ("sorted", "len"), path.name)

    def test_what_is_iterated_at_once(self):
        for path, tree in trees():
            around = {id(child): node for node in ast.walk(tree) for child in ast.iter_child_nodes(node)}
            for node in ast.walk(tree):
                if isinstance(node, ast.Call) and isinstance(node.func, ast.Name) and node.func.id in AT_ONCE:
                    outer = around[id(node)]
                    self.assertIsInstance(outer, (ast.For, ast.comprehension, ast.Call), path.name)

    def test_errors_are_made_on_the_spot_and_own_ones_caught(self):
        errors = ast.parse((PACKAGE / "errors.py").read_text())
        own = [node.name for node in errors.body if isinstance(node, ast.ClassDef)]
        for path, node in nodes_of(ast.Raise):
            self.assertIsInstance(node.exc, ast.Call, path.name)
            self.assertIn(node.exc.func.id, own, path.name)
        for path, node in nodes_of(ast.ExceptHandler):
            self.assertIn(node.type.id, own + ["KeyError"], path.name)

    def test_strings_escape_line_feeds_at_most(self):
        for path in files():
            self.assertEqual(re.findall(r"\\[^nt\\\"']", path.read_text()), [], path.name)

    def test_every_function_has_a_docstring(self):
        for path, node in nodes_of((ast.FunctionDef, ast.ClassDef)):
            if node.name not in DUNDERS:
                self.assertIsNotNone(ast.get_docstring(node), node.name)


if __name__ == "__main__":
    unittest.main()
