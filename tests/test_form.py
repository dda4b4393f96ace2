"""The package's files against the rules of shared/LANGUAGE.md that can be seen in a file alone."""

import ast
import builtins
import re
import unittest
from pathlib import Path

PACKAGE = Path(__file__).resolve().parent.parent / "twighall"
FILES = sorted(PACKAGE.glob("*.py"))

ERRORS = """Exception ValueError TypeError KeyError IndexError LookupError ZeroDivisionError ArithmeticError
OverflowError RuntimeError NotImplementedError AttributeError StopIteration""".split()
OWN_NAMES = ERRORS + """len range enumerate zip min max sum abs sorted reversed int str bool list tuple dict set
frozenset isinstance ord repr any all divmod""".split()
METHODS = """append clear copy count endswith extend find get index insert isalnum isalpha isdigit islower isspace
isupper items join keys ljust lower lstrip partition pop remove replace reverse rfind rjust rpartition rsplit rstrip
setdefault split splitlines startswith strip update upper values zfill bit_length""".split()
NODES = """Module Expr Constant ImportFrom alias FunctionDef ClassDef arguments arg Lambda Assign AugAssign If While For
Return Break Continue Pass Raise Try ExceptHandler Call Name Load Store Attribute Subscript Slice List Tuple Dict Set
ListComp comprehension BinOp Add Sub Mult FloorDiv Mod Pow LShift RShift BitOr BitXor BitAnd UnaryOp USub UAdd Invert
Not BoolOp And Or Compare Eq NotEq Lt LtE Gt GtE Is IsNot In NotIn IfExp JoinedStr FormattedValue keyword""".split()
WORDS = """type typing typing_extensions enum Enum IntEnum StrEnum Flag IntFlag Generic Protocol ABC ABCMeta
namedtuple NamedTuple TypedDict TYPE_CHECKING abstractmethod""".split()

WALKERS = "list tuple dict sorted sum any all enumerate zip min max".split()


class Form(unittest.TestCase):
    def each_node(self, *kinds):
        for file in FILES:
            for node in ast.walk(ast.parse(file.read_text(encoding="utf-8"))):
                if isinstance(node, kinds):
                    yield f"{file.name}:{getattr(node, 'lineno', 0)}", node

    def test_files(self):
        self.assertIn(PACKAGE / "__init__.py", FILES)
        for entry in PACKAGE.iterdir():
            if entry.name != "__pycache__":
                self.assertRegex(entry.name, r"\A[a-z0-9_]+\.py\Z")

    def test_signs_and_sizes(self):
        for file in FILES:
            text = file.read_bytes().decode("ascii")
            self.assertEqual(re.findall(r"[^\n -~]", text), [], file)
            rows = text.split("\n")
            self.assertLessEqual(len(rows), 400, file)
            self.assertLessEqual(max(len(row) for row in rows), 120, file)

    def test_words_that_stand_nowhere(self):
        for file in FILES:
            text = file.read_text(encoding="utf-8")
            self.assertEqual(set(re.findall(r"\w+", text)) & set(WORDS), set(), file)
            self.assertIsNone(re.search("dataclass|overload|contextmanager", text), file)

    def test_kinds_of_nodes(self):
        for place, node in self.each_node(ast.AST):
            self.assertIn(type(node).__name__, NODES, place)

    def test_imports(self):
        for place, node in self.each_node(ast.ImportFrom):
            self.assertEqual(node.level, 0, place)
            file = PACKAGE.parent / (node.module.replace(".", "/") + ".py")
            self.assertIn(file, FILES, place)
            top = ast.parse(file.read_text(encoding="utf-8")).body
            defined = [part.name for part in top if isinstance(part, (ast.FunctionDef, ast.ClassDef))]
            defined += [part.targets[0].id for part in top if isinstance(part, ast.Assign)]
            for alias in node.names:
                self.assertIn(alias.name, defined, place)

    def test_no_two_files_draw_from_one_another(self):
        drawn = {}
        for file in FILES:
            rows = ast.walk(ast.parse(file.read_text(encoding="utf-8")))
            drawn[file.stem] = {row.module.split(".")[-1] for row in rows if isinstance(row, ast.ImportFrom)}
        # A file that draws only from files that are done is done: in a ring none ever is.
        done = set()
        for _ in FILES:
            done |= {name for name in drawn if drawn[name] <= done}
        self.assertEqual(done, set(drawn))

    def test_each_name_once(self):
        for file in FILES:
            names = []
            for part in ast.parse(file.read_text(encoding="utf-8")).body:
                if isinstance(part, (ast.FunctionDef, ast.ClassDef)):
                    names.append(part.name)
                elif isinstance(part, ast.ImportFrom):
                    names += [alias.asname or alias.name for alias in part.names]
                elif isinstance(part, ast.Assign):
                    names.append(part.targets[0].id)
            self.assertEqual(len(names), len(set(names)), file)

    def test_no_local_is_called_like_an_import_or_a_class(self):
        for file in FILES:
            nodes = list(ast.walk(ast.parse(file.read_text(encoding="utf-8"))))
            taken = {node.name for node in nodes if isinstance(node, (ast.ClassDef, ast.alias))}
            stored = {node.id for node in nodes if isinstance(node, ast.Name) and isinstance(node.ctx, ast.Store)}
            given = {node.arg for node in nodes if isinstance(node, ast.arg)}
            self.assertEqual(taken & (stored | given), set(), file)

    def test_tops(self):
        for file in FILES:
            body = ast.parse(file.read_text(encoding="utf-8")).body
            self.assertIsInstance(body[0].value.value, str, file)
            for part in body[1:]:
                self.assertIsInstance(part, (ast.ImportFrom, ast.FunctionDef, ast.ClassDef, ast.Assign), file)

    def test_functions(self):
        for place, node in self.each_node(ast.FunctionDef):
            self.assertLessEqual(node.end_lineno - node.lineno + 1, 40, place)
            self.assertEqual(node.decorator_list, [], place)
            arguments = node.args
            self.assertEqual((arguments.posonlyargs, arguments.kwonlyargs), ([], []), place)
            self.assertEqual((arguments.vararg, arguments.kwarg), (None, None), place)

    def test_classes(self):
        for place, node in self.each_node(ast.ClassDef):
            self.assertEqual((node.decorator_list, node.keywords), ([], []), place)
            self.assertLessEqual(len(node.bases), 1, place)
            for part in node.body:
                self.assertIsInstance(part, (ast.FunctionDef, ast.Pass), place)

    def test_python_s_own_names(self):
        for place, node in self.each_node(ast.Name):
            if hasattr(builtins, node.id):
                self.assertIsInstance(node.ctx, ast.Load, place)
                self.assertIn(node.id, OWN_NAMES, place)
            self.assertRegex(node.id, r"\A[A-Za-z]\w*\Z", place)

    def test_parameters_and_defs(self):
        for place, node in self.each_node(ast.arg, ast.FunctionDef, ast.ClassDef):
            name = node.arg if isinstance(node, ast.arg) else node.name
            self.assertFalse(hasattr(builtins, name), place)
            self.assertRegex(name, r"\A([A-Za-z]\w*|__(init|eq|repr|str|len)__)\Z", place)

    def test_attributes(self):
        for place, node in self.each_node(ast.Attribute):
            self.assertIn(node.attr, METHODS, place)

    def test_assignments_have_one_target(self):
        for place, node in self.each_node(ast.Assign):
            self.assertEqual(len(node.targets), 1, place)

    def test_what_stands_by_itself(self):
        for place, node in self.each_node(ast.Expr):
            self.assertIsInstance(node.value, (ast.Call, ast.Constant), place)

    def test_keywords(self):
        for place, node in self.each_node(ast.keyword):
            self.assertIn(node.arg, ("key", "reverse", "default", "start", "strict"), place)

    def test_what_is_walked_at_once_is_not_kept(self):
        allowed = set()
        for _, node in self.each_node(ast.For, ast.comprehension, ast.Call):
            if not isinstance(node, ast.Call):
                allowed.add(ast.dump(node.iter, include_attributes=True))
            elif isinstance(node.func, ast.Name) and node.func.id in WALKERS and node.args:
                allowed.add(ast.dump(node.args[0], include_attributes=True))
        for place, node in self.each_node(ast.Call):
            if isinstance(node.func, ast.Name) and node.func.id in ("zip", "enumerate", "reversed", "range"):
                self.assertIn(ast.dump(node, include_attributes=True), allowed, place)

    def test_no_sets(self):
        for place, node in self.each_node(ast.Set, ast.Name):
            self.assertIsInstance(node, ast.Name, place)
            self.assertNotIn(node.id, ("set", "frozenset"), place)

    def test_powers_have_a_written_exponent(self):
        for place, node in self.each_node(ast.BinOp):
            if isinstance(node.op, ast.Pow):
                self.assertIsInstance(node.right, ast.Constant, place)

    def test_nothing_of_a_file_s_top_is_a_list_or_a_dict(self):
        for file in FILES:
            for part in ast.parse(file.read_text(encoding="utf-8")).body:
                if isinstance(part, ast.Assign):
                    self.assertIsInstance(part.value, (ast.Constant, ast.Tuple), file)

    def test_comprehensions(self):
        for place, node in self.each_node(ast.ListComp):
            self.assertEqual(len(node.generators), 1, place)
            self.assertLessEqual(len(node.generators[0].ifs), 1, place)

    def test_is_stands_beside_none_and_truths(self):
        for place, node in self.each_node(ast.Compare):
            if any(isinstance(sign, (ast.Is, ast.IsNot)) for sign in node.ops):
                values = [getattr(side, "value", "") for side in [node.left] + node.comparators]
                self.assertTrue([value for value in values if value is None or isinstance(value, bool)], place)

    def test_values(self):
        for place, node in self.each_node(ast.Constant):
            self.assertIn(type(node.value), (int, str, bool, type(None)), place)
            self.assertNotIn("%", str(node.value), place)


if __name__ == "__main__":
    unittest.main()
