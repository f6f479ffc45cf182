"""The rules of the language that can be seen in the files, and where the interface stands.

The number of the rule stands behind each test's name.
"""

import ast
import re
import unittest
from functools import lru_cache
from pathlib import Path

PACKAGE = Path(__file__).resolve().parent.parent / "thirtycubes"
FILES = sorted(PACKAGE.glob("*.py"))

BUILTINS = set(
    "len range enumerate zip min max sum abs sorted reversed int str bool bytes list tuple dict set frozenset isinstance"
    " ord repr any all divmod iter next super object Exception ValueError TypeError KeyError IndexError LookupError"
    " ZeroDivisionError ArithmeticError OverflowError RuntimeError NotImplementedError AttributeError StopIteration"
    " NotImplemented property staticmethod classmethod".split()
)
PYTHONS_OWN = set(dir(__builtins__) if not isinstance(__builtins__, dict) else __builtins__)
BARRED_WORDS = set(
    "type typing typing_extensions enum Enum IntEnum StrEnum Flag IntFlag Generic Protocol ABC ABCMeta namedtuple"
    " NamedTuple TypedDict TYPE_CHECKING abstractmethod".split()
)
BARRED_NAMES = set("register mro elements open input law version_info with_traceback add_note format format_map".split())
METHODS = set(
    "append clear copy count endswith extend find get index insert isalnum isalpha isdigit islower isspace isupper items"
    " join keys ljust lower lstrip partition pop remove replace reverse rfind rjust rpartition rsplit rstrip setdefault"
    " split splitlines startswith strip update upper values zfill bit_length title capitalize swapcase casefold center"
    " expandtabs removeprefix removesuffix rindex isascii isdecimal isnumeric istitle isidentifier isprintable translate"
    " maketrans add discard encode decode hex".split()
)
DOUBLE = set("__init__ __eq__ __repr__ __str__ __len__".split())
STATEMENTS = (
    ast.FunctionDef, ast.ClassDef, ast.Assign, ast.AugAssign, ast.AnnAssign, ast.If, ast.While, ast.For, ast.Return,
    ast.Break, ast.Continue, ast.Pass, ast.Raise, ast.Assert, ast.Delete, ast.Nonlocal, ast.Match, ast.With, ast.Try,
    ast.Expr, ast.ImportFrom,
)

INTERFACE = {
    "errors": (
        "CubeError NoTurn NoWord NoPaints NoPalette NoCounts NoNumber NoFit NoCubes NoSix NoCube NoChange NoStock NoRow"
        " NoName TooMany NoPlace NoBack NoBase NoPaper NoText"
    ),
    "turns": "is_turn turns put_together turned_back times_of turn_of word_of",
    "paints": "is_paints turned least_paints mirrored leaving looks",
    "cubes": "Cube",
    "alike": "pairs_of hand_of alike_judged alike",
    "counts": "how_many how_many_with all_cubes number_of cube_of",
    "rows": "row_judged row_of",
    "towers": "tower_judged tower",
    "thirty": "are_six corners_of Thirty",
    "blocks": "block_judged blocks eight_of",
    "shelf": "Shelf",
    "texts": (
        "paints_text read_paints turn_text read_turn picture read_picture box_text read_box paper_text read_paper"
    ),
}
# The arguments as the interface writes them.
ARGUMENTS = {
    "turns": {
        "is_turn": "thing", "turns": "", "put_together": "one, other", "turned_back": "turn", "turn_of": "word",
        "times_of": "turn", "word_of": "turn",
    },
    "paints": {
        "is_paints": "thing", "turned": "paints, turn", "least_paints": "paints", "mirrored": "paints",
        "leaving": "paints", "looks": "paints",
    },
    "alike": {
        "pairs_of": "paints", "hand_of": "paints", "alike_judged": "one, other, paper", "alike": "one, other",
    },
    "counts": {
        "how_many": "palette=6", "how_many_with": "counts", "all_cubes": "palette=2", "number_of": "palette, paints",
        "cube_of": "palette, number",
    },
    "rows": {"row_judged": "cubes, thing, ring=False", "row_of": "cubes, ring=False"},
    "towers": {"tower_judged": "cubes, paper", "tower": "cubes"},
    "thirty": {"are_six": "thing", "corners_of": "paints"},
    "blocks": {
        "block_judged": "thirty, number, block, stock=None", "blocks": "thirty, number, stock=None",
        "eight_of": "thirty, number",
    },
    "texts": {
        "paints_text": "paints, base=10", "read_paints": "text, base=10", "turn_text": "turn", "read_turn": "text",
        "picture": "paints", "read_picture": "text", "box_text": "cubes", "read_box": "text", "paper_text": "paper",
        "read_paper": "text",
    },
}
# The methods of each class, with their arguments as the interface writes them.
CLASS_METHODS = {
    ("cubes", "Cube"): {
        "__init__": "self, paints=None", "paints": "self", "turned": "self, turn=None", "mirrored": "self",
        "__eq__": "self, other", "__len__": "self", "__str__": "self", "__repr__": "self",
    },
    ("thirty", "Thirty"): {
        "__init__": "self, six", "cubes": "self", "number": "self, paints", "twin": "self, number",
        "shared": "self, number, other", "lots": "self", "table": "self", "is_table": "self, thing",
        "place": "self, number", "changed": "self, number, change", "rows_changed": "self, change",
        "__eq__": "self, other", "__len__": "self", "__str__": "self", "__repr__": "self",
    },
    ("shelf", "Shelf"): {"__init__": "self", "say": "self, row"},
}


@lru_cache
def trees():
    return {path.stem: ast.parse(path.read_text()) for path in FILES}


def nodes(kind):
    """Every node of a kind, with its file's name."""
    return [(stem, node) for stem, tree in trees().items() for node in ast.walk(tree) if isinstance(node, kind)]


def bound_names():
    """Every name that the package gives: functions, classes, parameters, targets, attributes."""
    found = [(stem, node.name) for stem, node in nodes((ast.FunctionDef, ast.ClassDef))]
    found += [(stem, node.arg) for stem, node in nodes(ast.arg)]
    found += [(stem, node.id) for stem, node in nodes(ast.Name) if isinstance(node.ctx, ast.Store)]
    found += [(stem, node.attr) for stem, node in nodes(ast.Attribute)]
    return found


def own_methods():
    return {
        row.name
        for stem, node in nodes(ast.ClassDef)
        for row in node.body
        if isinstance(row, ast.FunctionDef)
    }


def module_lists():
    """The names of all lists and dicts at module level."""
    return [
        row.targets[0].id
        for tree in trees().values()
        for row in tree.body
        if isinstance(row, ast.Assign) and isinstance(row.value, (ast.List, ast.Dict))
    ]


def parents_of_files():
    """For each file its name, and for every node but the outermost the one above it."""
    return [
        (stem, {child: node for node in ast.walk(tree) for child in ast.iter_child_nodes(node)})
        for stem, tree in trees().items()
    ]


def is_call(node, names):
    return isinstance(node, ast.Call) and isinstance(node.func, ast.Name) and node.func.id in names


def imports_of(tree):
    return [node.module.split(".")[-1] for node in tree.body if isinstance(node, ast.ImportFrom)]


class Files(unittest.TestCase):
    def test_folder_L1_L14(self):
        self.assertIn(PACKAGE / "__init__.py", FILES)
        for path in PACKAGE.iterdir():
            if path.name != "__pycache__":
                self.assertRegex(path.name, r"^([a-z][a-z0-9_]*|__init__)\.py$")

    def test_no_test_stands_in_the_package(self):
        for path in FILES:
            self.assertFalse(path.name.startswith("test"))

    def test_characters_and_sizes_L10_L14(self):
        for path in FILES:
            text = path.read_bytes().decode("ascii")
            self.assertRegex(text, r"\A[ -~\n]*\Z", path.name)
            rows = text.split("\n")
            self.assertLessEqual(len(rows), 399, path.name)
            self.assertLessEqual(max(len(row) for row in rows), 120, path.name)
        for stem, node in nodes(ast.FunctionDef):
            self.assertLessEqual(node.end_lineno - node.lineno + 1, 40, (stem, node.name))

    def test_barred_words_L17(self):
        for path in FILES:
            text = path.read_text()
            self.assertEqual(set(re.findall(r"\w+", text)) & BARRED_WORDS, set(), path.name)
            self.assertNotRegex(text, "dataclass|overload|contextmanager", path.name)


class Modules(unittest.TestCase):
    def test_imports_L2_L16(self):
        for stem, node in nodes(ast.ImportFrom):
            self.assertEqual(node.level, 0, stem)
            self.assertRegex(node.module, r"^thirtycubes\.[a-z_]+$", stem)
            defined = {
                name.id if isinstance(name, ast.Name) else name.name
                for row in trees()[node.module.split(".")[1]].body
                for name in (row.targets if isinstance(row, ast.Assign) else [row])
                if isinstance(name, (ast.Name, ast.FunctionDef, ast.ClassDef))
            }
            for alias in node.names:
                self.assertIn(alias.name, defined, stem)

    def test_imports_go_one_way_L16(self):
        left = {stem: set(imports_of(tree)) for stem, tree in trees().items()}
        while left:
            free = [stem for stem in left if not left[stem] & set(left)]
            self.assertTrue(free, f"import one another: {sorted(left)}")
            for stem in free:
                del left[stem]

    def test_module_level_L3_L15(self):
        for stem, tree in trees().items():
            names = []
            for place, row in enumerate(tree.body):
                if isinstance(row, ast.Expr):
                    self.assertEqual(place, 0, stem)
                    self.assertIsInstance(ast.literal_eval(row.value), str)
                elif isinstance(row, ast.Assign):
                    self.assertEqual(len(row.targets), 1, stem)
                    self.assertIsInstance(row.targets[0], ast.Name, stem)
                    names.append(row.targets[0].id)
                    self.check_plain(stem, row.value, set(names))
                elif isinstance(row, ast.ImportFrom):
                    names += [alias.asname or alias.name for alias in row.names]
                else:
                    self.assertIsInstance(row, (ast.FunctionDef, ast.ClassDef), stem)
                    names.append(row.name)
            self.assertEqual(len(names), len(set(names)), stem)

    def check_plain(self, stem, value, names):
        """A plain value, with nothing of a name but functions above it, and no list or dict within another."""
        if isinstance(value, ast.Name):
            self.assertIn(value.id, names, stem)
        elif isinstance(value, (ast.Tuple, ast.List, ast.Dict)):
            for part in value.values + value.keys if isinstance(value, ast.Dict) else value.elts:
                self.assertNotIsInstance(part, (ast.List, ast.Dict), (stem, value.lineno))
                self.check_plain(stem, part, names)
        else:
            ast.literal_eval(value)

    def test_statements_L4_L6(self):
        for stem, node in nodes(ast.stmt):
            self.assertIsInstance(node, STATEMENTS, (stem, node.lineno))
        for stem, node in nodes((ast.FunctionDef, ast.ClassDef)):
            self.assertEqual(node.decorator_list, [], (stem, node.name))
        for stem, node in nodes(ast.FunctionDef):
            self.assertEqual(node.args.posonlyargs, [], (stem, node.name))


class Expressions(unittest.TestCase):
    def test_no_fractions_L7(self):
        for stem, node in nodes((ast.BinOp, ast.AugAssign)):
            self.assertNotIsInstance(node.op, ast.Div, (stem, node.lineno))
        for stem, node in nodes(ast.Constant):
            self.assertNotIsInstance(node.value, (float, complex), (stem, node.lineno))

    def test_no_generator_expressions_beside_eq_L7(self):
        self.assertEqual(nodes(ast.GeneratorExp), [])

    def test_texts_L27(self):
        for stem, node in nodes(ast.Constant):
            if isinstance(node.value, str):
                self.assertNotIn("%", node.value, (stem, node.lineno))

    def test_builtins_L8(self):
        for stem, node in nodes(ast.Name):
            if node.id in PYTHONS_OWN:
                self.assertIn(node.id, BUILTINS, (stem, node.lineno))
                self.assertIsInstance(node.ctx, ast.Load, (stem, node.lineno))

    def test_names_L12_L15_L17(self):
        for stem, name in bound_names():
            self.assertNotIn(name, BARRED_NAMES, stem)
            if name not in DOUBLE:
                self.assertRegex(name, r"^[A-Za-z][A-Za-z0-9_]*$", stem)
        for stem, node in nodes((ast.FunctionDef, ast.ClassDef, ast.arg)):
            name = node.arg if isinstance(node, ast.arg) else node.name
            self.assertNotIn(name, PYTHONS_OWN, stem)

    def test_methods_of_builtin_values_L25(self):
        for stem, node in nodes(ast.Call):
            if isinstance(node.func, ast.Attribute) and node.func.attr not in own_methods():
                self.assertIn(node.func.attr, METHODS, (stem, node.lineno))
                self.assertEqual(node.keywords, [], (stem, node.lineno))

    def test_is_L20(self):
        for stem, node in nodes(ast.Compare):
            for sign, right in zip(node.ops, node.comparators):
                if isinstance(sign, (ast.Is, ast.IsNot)):
                    self.assertIsInstance(right, ast.Constant, (stem, node.lineno))
                    self.assertIn(right.value, (None, True, False), (stem, node.lineno))

    def test_no_name_is_a_method_and_an_attribute_L18(self):
        stored = {node.attr for stem, node in nodes(ast.Attribute) if isinstance(node.ctx, ast.Store)}
        self.assertEqual(stored & own_methods(), set())


    def test_each_attribute_that_is_read_is_assigned_L18(self):
        stored = {node.attr for stem, node in nodes(ast.Attribute) if isinstance(node.ctx, ast.Store)}
        for stem, node in nodes(ast.Attribute):
            self.assertIn(node.attr, stored | own_methods() | METHODS, (stem, node.lineno))

    def test_lists_and_dicts_of_a_module_are_only_read_L15(self):
        for stem, parents in parents_of_files():
            kept = set(module_lists())
            for node in parents:
                if isinstance(node, ast.Name) and node.id in kept and isinstance(node.ctx, ast.Load):
                    above = parents[node]
                    asked = isinstance(above, ast.Compare) or is_call(above, ("len", "list", "dict", "sorted", "tuple"))
                    part = isinstance(above, ast.Subscript) and above.value == node and isinstance(above.ctx, ast.Load)
                    got = isinstance(above, ast.Attribute) and above.attr in ("get", "items", "keys", "values", "index")
                    looped = isinstance(above, (ast.For, ast.comprehension)) and above.iter == node
                    self.assertTrue(asked or part or got or looped, (stem, node.lineno))

    def test_only_names_and_attributes_are_called_L3(self):
        for stem, node in nodes(ast.Call):
            self.assertIsInstance(node.func, (ast.Name, ast.Attribute), (stem, node.lineno))

    def test_behind_a_star_of_a_call_stand_names_L7(self):
        for stem, node in nodes(ast.Call):
            if any(isinstance(part, ast.Starred) for part in node.args):
                for part in node.args:
                    plain = part.value if isinstance(part, ast.Starred) else part
                    self.assertIsInstance(plain, (ast.Name, ast.Attribute, ast.Constant), (stem, node.lineno))
                self.assertEqual(node.keywords, [], (stem, node.lineno))

    def test_errors_are_made_where_they_are_raised_and_own_ones_are_caught_L19(self):
        own = set(INTERFACE["errors"].split())
        for stem, node in nodes(ast.Raise):
            self.assertTrue(is_call(node.exc, own), (stem, node.lineno))
        for stem, node in nodes(ast.ExceptHandler):
            self.assertIn(node.type.id, own, (stem, node.lineno))

    def test_double_underscore_methods_L28(self):
        for stem, node in nodes(ast.FunctionDef):
            if node.name in ("__len__", "__str__", "__repr__", "__eq__"):
                self.assertEqual([type(row) for row in node.body], [ast.Return], (stem, node.name))
                told = node.body[0].value
                if node.name == "__len__":
                    self.assertTrue(is_call(told, ("len",)) or isinstance(told, ast.Constant), stem)
                if node.name in ("__str__", "__repr__"):
                    self.assertIsInstance(told, (ast.JoinedStr, ast.Call), stem)


class SetsAndNames(unittest.TestCase):
    def test_a_set_stands_where_it_may_L24(self):
        for stem, parents in parents_of_files():
            for node in parents:
                if is_call(node, ("set",)) or isinstance(node, (ast.Set, ast.SetComp)):
                    above = parents[node]
                    fine = is_call(above, ("len", "sorted")) or isinstance(above, (ast.Compare, ast.Assign))
                    self.assertTrue(fine, (stem, node.lineno))

    def test_a_stored_set_is_used_as_it_may_L24(self):
        for stem, parents in parents_of_files():
            for node in parents:
                if isinstance(node, ast.FunctionDef):
                    self.check_stored_sets(stem, node, parents)

    def check_stored_sets(self, stem, function, parents):
        kept = [
            row.targets[0].id for row in ast.walk(function)
            if isinstance(row, ast.Assign) and (is_call(row.value, ("set",)) or isinstance(row.value, (ast.Set, ast.SetComp)))
        ]
        names = [node for node in ast.walk(function) if isinstance(node, ast.Name) and node.id in kept]
        for name in names:
            above = parents[name]
            method = isinstance(above, ast.Attribute) and above.attr in ("add", "discard")
            asked = isinstance(above, ast.Compare) or is_call(above, ("len", "sorted"))
            self.assertTrue(method or asked or isinstance(name.ctx, ast.Store), (stem, name.lineno))
        stored = [name.id for name in names if isinstance(name.ctx, ast.Store)]
        self.assertEqual(len(stored), len(set(stored)), (stem, function.name))

    def test_iterated_at_once_L23(self):
        heads = ("list", "tuple", "dict", "sorted", "sum", "any", "all", "enumerate", "zip", "min", "max", "len")
        for stem, parents in parents_of_files():
            for node in parents:
                views = isinstance(node, ast.Attribute) and node.attr in ("items", "keys", "values")
                call = parents[node] if views else node
                if views or is_call(node, ("zip", "enumerate", "reversed", "range")):
                    above = parents[call]
                    looped = isinstance(above, (ast.For, ast.comprehension)) and above.iter == call
                    self.assertTrue(looped or is_call(above, heads), (stem, node.lineno))

    def test_no_local_name_is_an_import_L15(self):
        for stem, tree in trees().items():
            imported = {alias.asname or alias.name for row in tree.body if isinstance(row, ast.ImportFrom) for alias in row.names}
            local = {node.arg for node in ast.walk(tree) if isinstance(node, ast.arg)}
            local |= {node.id for node in ast.walk(tree) if isinstance(node, ast.Name) and isinstance(node.ctx, ast.Store)}
            self.assertEqual(imported & local, set(), stem)

    def test_no_local_name_is_pythons_own_L15(self):
        for stem, node in nodes(ast.Name):
            if isinstance(node.ctx, ast.Store):
                self.assertNotIn(node.id, PYTHONS_OWN, (stem, node.lineno))


class Interface(unittest.TestCase):
    def test_arguments_and_defaults(self):
        for stem, functions in ARGUMENTS.items():
            classes = {name for file, name in CLASS_METHODS if file == stem}
            self.assertEqual(set(functions), set(INTERFACE[stem].split()) - classes, stem)
            for row in trees()[stem].body:
                if isinstance(row, ast.FunctionDef) and row.name in functions:
                    self.assertEqual(ast.unparse(row.args), functions[row.name], row.name)

    def test_each_name_is_defined_in_its_file(self):
        for stem, names in INTERFACE.items():
            defined = {row.name for row in trees()[stem].body if isinstance(row, (ast.FunctionDef, ast.ClassDef))}
            self.assertEqual(set(names.split()) - defined, set(), stem)

    def test_each_method_is_defined_in_its_class(self):
        for (stem, name), methods in CLASS_METHODS.items():
            body = [row for row in trees()[stem].body if isinstance(row, ast.ClassDef) and row.name == name][0].body
            defined = {row.name: ast.unparse(row.args) for row in body if isinstance(row, ast.FunctionDef)}
            self.assertEqual({method: defined.get(method) for method in methods}, methods, name)
