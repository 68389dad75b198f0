"""The package keeps to a small part of Python. These tests look for what falls out of it; a letter and a number,
as L7, name the rule."""

import ast
import builtins
import pathlib
import re
import unittest

PACKAGE = pathlib.Path(__file__).resolve().parent.parent / "plymap"
FILES = sorted(PACKAGE.glob("*.py"))
TEXTS = {path.stem: path.read_text(encoding="utf-8") for path in FILES}
TREES = {name: ast.parse(text) for name, text in TEXTS.items()}

ERRORS = """Exception ValueError TypeError KeyError IndexError LookupError ZeroDivisionError ArithmeticError
    OverflowError RuntimeError NotImplementedError AttributeError StopIteration""".split()
OWN = """len range enumerate zip min max sum abs sorted reversed int str bool list tuple dict set frozenset
    isinstance ord repr any all divmod""".split() + ERRORS
METHODS = """append clear copy count endswith extend find get index insert isalnum isalpha isdigit islower isspace
    isupper items join keys ljust lower lstrip partition pop remove replace reverse rfind rjust rpartition rsplit
    rstrip setdefault split splitlines startswith strip update upper values zfill bit_length""".split()
UNDERSCORED = "__init__ __eq__ __repr__ __str__ __len__".split()
NEVER = """register mro elements open input version_info with_traceback add_note attrgetter breakpoint builtins
    compile copyright credits delattr dir eval exec exit gc getattr globals hasattr help id importlib license
    locals methodcaller os quit setattr super type vars sys format format_map sort""".split()
WORDS = """type typing typing_extensions enum Enum IntEnum StrEnum Flag IntFlag Generic Protocol ABC ABCMeta
    namedtuple NamedTuple TypedDict TYPE_CHECKING abstractmethod""".split()
STATEMENTS = (ast.Assign, ast.AugAssign, ast.If, ast.While, ast.For, ast.Return, ast.Break, ast.Continue, ast.Pass,
              ast.Raise, ast.Try, ast.Expr, ast.FunctionDef, ast.ClassDef, ast.ImportFrom)
EXPRESSIONS = (ast.Constant, ast.List, ast.Tuple, ast.Dict, ast.Set, ast.BinOp, ast.UnaryOp, ast.Compare, ast.BoolOp,
               ast.IfExp, ast.Call, ast.Attribute, ast.Subscript, ast.Slice, ast.ListComp, ast.JoinedStr,
               ast.FormattedValue, ast.Name, ast.Lambda)
WALKED = "zip enumerate reversed range".split()
WALKERS = "list tuple dict sorted sum any all enumerate zip min max".split()


def called(node):
    """The name by which a call calls, of a function or of a method."""
    if not isinstance(node, ast.Call):
        return None
    return node.func.id if isinstance(node.func, ast.Name) else getattr(node.func, "attr", None)


def nodes_of(kind):
    return [(name, node) for name, tree in TREES.items() for node in ast.walk(tree) if isinstance(node, kind)]


def top_names(tree):
    names = []
    for node in tree.body:
        if isinstance(node, (ast.FunctionDef, ast.ClassDef)):
            names.append(node.name)
        elif isinstance(node, ast.Assign):
            names.extend([target.id for target in node.targets])
        elif isinstance(node, ast.ImportFrom):
            names.extend([alias.asname or alias.name for alias in node.names])
    return names


def imports_of(tree):
    return [node for node in tree.body if isinstance(node, ast.ImportFrom)]


class Files(unittest.TestCase):
    def test_nothing_but_python_files(self):
        for path in PACKAGE.iterdir():
            if path.name != "__pycache__":
                self.assertRegex(path.name, r"^([a-z][a-z0-9_]*|__init__|__main__)\.py$", "L1, L14")
        self.assertTrue((PACKAGE / "__init__.py").exists(), "L14")

    def test_signs_and_sizes(self):
        for name, text in TEXTS.items():
            self.assertRegex(text, r"\A[\n -~]*\Z", f"L14 {name}")
            self.assertLessEqual(len(text.splitlines()), 400, f"L10 {name}")
            self.assertLessEqual(max([len(line) for line in text.splitlines()]), 120, f"L10 {name}")

    def test_functions_are_small(self):
        for name, node in nodes_of(ast.FunctionDef):
            self.assertLessEqual(node.end_lineno - node.lineno + 1, 40, f"L10 {name} {node.name}")

    def test_words(self):
        for name, text in TEXTS.items():
            words = re.findall(r"[A-Za-z0-9_]+", text)
            self.assertEqual([word for word in words if word in WORDS], [], f"L17 {name}")
            self.assertNotRegex(text, "dataclass|overload|contextmanager", f"L17 {name}")


class Tops(unittest.TestCase):
    def test_what_stands_at_the_top(self):
        for name, tree in TREES.items():
            self.assertIsInstance(tree.body[0], ast.Expr, f"docstring of {name}")
            for node in tree.body[1:]:
                kinds = (ast.ImportFrom, ast.FunctionDef, ast.ClassDef, ast.Assign)
                self.assertIsInstance(node, kinds, f"L3 {name} {node.lineno}")
                if isinstance(node, ast.Assign):
                    ast.literal_eval(node.value)

    def test_each_name_once(self):
        for name, tree in TREES.items():
            names = top_names(tree)
            self.assertEqual(len(names), len(set(names)), f"L15 {name}")

    def test_imports(self):
        for name, tree in TREES.items():
            inside = [node for node in ast.walk(tree) if isinstance(node, (ast.Import, ast.ImportFrom))]
            self.assertEqual(inside, imports_of(tree), f"L2 {name}")
            for node in inside:
                self.assertEqual([node.level, node.module.split(".")[0]], [0, "plymap"], f"L2 {name}")
                source = TREES[node.module.split(".", 1)[1]]
                drawn = [alias.name for row in imports_of(source) for alias in row.names]
                for alias in node.names:
                    self.assertIn(alias.name, top_names(source), f"L16 {name}")
                    self.assertNotIn(alias.name, drawn, f"L16 {name}")

    def test_no_two_files_draw_from_one_another(self):
        drawn = {name: {row.module.split(".", 1)[1] for row in imports_of(tree)} for name, tree in TREES.items()}
        done = set()
        while len(done) < len(drawn):
            ready = {name for name in drawn if name not in done and drawn[name] <= done}
            self.assertTrue(ready, f"L16 a circle among {sorted(set(drawn) - done)}")
            done |= ready

    def test_imports_are_used(self):
        for name, tree in TREES.items():
            used = {node.id for node in ast.walk(tree) if isinstance(node, ast.Name)}
            for row in imports_of(tree):
                for alias in row.names:
                    self.assertIn(alias.name, used, f"{name} does not use {alias.name}")


class Inside(unittest.TestCase):
    def test_statements(self):
        for name, node in nodes_of(ast.stmt):
            here = f"{name} {node.lineno}"
            self.assertIsInstance(node, STATEMENTS, f"L6 {here}")
            if isinstance(node, (ast.For, ast.While)):
                self.assertEqual(node.orelse, [], f"L6 {here}")
            if isinstance(node, ast.Assign):
                self.assertEqual(len(node.targets), 1, f"L6 {here}")
                self.assertNotIsInstance(node.targets[0], (ast.Tuple, ast.List), f"L6 {here}")
            if isinstance(node, ast.Try):
                self.assertEqual(node.finalbody, [], f"L6 {here}")
            if isinstance(node, ast.Expr) and node is not TREES[name].body[0]:
                self.assertIsInstance(node.value, ast.Call, f"L6 {here}")

    def test_expressions(self):
        for name, node in nodes_of(ast.expr):
            here = f"{name} {node.lineno}"
            self.assertIsInstance(node, EXPRESSIONS, f"L7 {here}")
            if isinstance(node, ast.Constant):
                self.assertIsInstance(node.value, (int, str, bool, type(None)), f"L7 {here}")
            if isinstance(node, ast.ListComp):
                self.assertEqual(len(node.generators), 1, f"L7 {here}")
                self.assertLessEqual(len(node.generators[0].ifs), 1, f"L7 {here}")
            if isinstance(node, ast.BinOp):
                self.assertNotIsInstance(node.op, (ast.Div, ast.MatMult), f"L7 {here}")
                if isinstance(node.op, ast.Pow):
                    self.assertIn(ast.literal_eval(node.right), range(65), f"L27 {here}")
            if isinstance(node, ast.Compare) and any([isinstance(op, (ast.Is, ast.IsNot)) for op in node.ops]):
                self.assertIn(node.comparators[0].value, (None, True, False), f"L20 {here}")

    def test_texts_hold_no_hundredth_sign(self):
        for name, node in nodes_of(ast.Constant):
            if isinstance(node.value, str):
                self.assertNotIn("%", node.value, f"L27 {name} {node.lineno}")

    def test_functions_have_plain_parameters(self):
        for name, node in nodes_of((ast.FunctionDef, ast.Lambda)):
            spare = node.args
            self.assertEqual([spare.vararg, spare.kwarg, spare.kwonlyargs, spare.posonlyargs], [None, None, [], []])
            self.assertEqual([arg.annotation for arg in spare.args if arg.annotation], [], f"L21 {name}")
            if isinstance(node, ast.FunctionDef):
                self.assertEqual([node.decorator_list, node.returns], [[], None], f"L4, L21 {name}")

    def test_names(self):
        for name, node in nodes_of((ast.Name, ast.arg, ast.FunctionDef, ast.ClassDef, ast.Attribute)):
            word = [getattr(node, key) for key in ("id", "arg", "name", "attr") if hasattr(node, key)][0]
            self.assertTrue(re.match(r"[A-Za-z]\w*$", word) or word in UNDERSCORED, f"L12 {name} {word}")
            self.assertNotIn(word, NEVER, f"L17, L25 {name}")

    def test_own_names_of_python(self):
        for name, tree in TREES.items():
            bound = [node.id for node in ast.walk(tree) if isinstance(node, ast.Name) and node.ctx.__class__ is ast.Store]
            bound = bound + [node.arg for node in ast.walk(tree) if isinstance(node, ast.arg)]
            drawn = [alias.name for row in imports_of(tree) for alias in row.names]
            classes = [node.name for node in tree.body if isinstance(node, ast.ClassDef)]
            self.assertEqual([word for word in bound if word in drawn + classes + dir(builtins)], [], f"L15 {name}")
            for node in ast.walk(tree):
                if isinstance(node, ast.Name) and node.id not in bound + top_names(tree):
                    self.assertIn(node.id, OWN, f"L8 {name} {node.lineno}")

    def test_classes(self):
        for name, node in nodes_of(ast.ClassDef):
            self.assertIn(node, TREES[name].body, f"L15 {name}")
            self.assertEqual([node.decorator_list, node.keywords], [[], []], f"L5 {name}")
            self.assertLessEqual(len(node.bases), 1, f"L5 {name}")
            for part in node.body:
                self.assertIsInstance(part, (ast.FunctionDef, ast.Pass), f"L5 {name}")

    def test_methods(self):
        own = [part.name for name, node in nodes_of(ast.ClassDef) for part in node.body
               if isinstance(part, ast.FunctionDef)]
        kept = [node.attr for name, node in nodes_of(ast.Attribute) if isinstance(node.ctx, ast.Store)]
        self.assertEqual(sorted(set(own) & set(kept)), [], "L18")
        for name, node in nodes_of(ast.Call):
            if isinstance(node.func, ast.Attribute):
                self.assertIn(node.func.attr, METHODS + own, f"L25 {name} {node.lineno}")

    def test_own_methods_and_values_are_not_called_like_those_of_python(self):
        taken = {word for kind in (str, int, list, dict, set, bytes, tuple) for word in dir(kind)}
        free = METHODS + UNDERSCORED + ["add", "discard", "title"]
        own = [part.name for name, node in nodes_of(ast.ClassDef) for part in node.body
               if isinstance(part, ast.FunctionDef)]
        kept = [node.attr for name, node in nodes_of(ast.Attribute) if isinstance(node.ctx, ast.Store)]
        self.assertEqual([word for word in own + kept if word in taken and word not in free], [], "L26")

    def test_lists_and_dicts_of_the_top_hold_no_others(self):
        for name, tree in TREES.items():
            for node in [node for node in tree.body if isinstance(node, ast.Assign)]:
                inside = [part for part in ast.walk(node.value) if isinstance(part, (ast.List, ast.Dict))]
                self.assertLessEqual(len(inside), 1, f"L15 {name} {node.lineno}")

    def test_walked_on_the_spot(self):
        for name, tree in TREES.items():
            good = []
            for node in ast.walk(tree):
                if isinstance(node, (ast.For, ast.comprehension)):
                    good.append(node.iter)
                if called(node) in WALKERS + ["join"]:
                    good.extend(node.args if called(node) == "zip" else node.args[:1])
            for node in ast.walk(tree):
                if called(node) in WALKED + ["items", "keys", "values"]:
                    self.assertIn(node, good, f"L23 {name} {node.lineno}")

    def test_no_set_is_kept(self):
        for name, node in nodes_of(ast.Call):
            self.assertNotIn(called(node), ("set", "frozenset", "chr"), f"L24, L27 {name} {node.lineno}")
        self.assertEqual(nodes_of(ast.Set), [], "L24")

    def test_values_are_given_through_a_local_name(self):
        for name, node in nodes_of(ast.Attribute):
            if isinstance(node.ctx, ast.Store):
                self.assertIsInstance(node.value, ast.Name, f"L18 {name} {node.lineno}")
                self.assertNotIn(node.value.id, top_names(TREES[name]), f"L18 {name} {node.lineno}")

    def test_what_a_loop_walks_is_not_changed_in_it(self):
        changing = "append clear extend insert pop remove reverse setdefault update".split()
        for name, node in nodes_of(ast.For):
            walked = {part.id for part in ast.walk(node.iter) if isinstance(part, ast.Name)}
            for part in [part for row in node.body for part in ast.walk(row)]:
                here = f"L23 {name} {node.lineno}"
                if called(part) in changing and isinstance(part.func, ast.Attribute):
                    self.assertNotIn(getattr(part.func.value, "id", None), walked, here)
                if isinstance(part, ast.Subscript) and isinstance(part.ctx, ast.Store):
                    self.assertNotIn(getattr(part.value, "id", None), walked, here)
