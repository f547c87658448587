"""The package's files keep to the rules of the language subset, as far as a look at the code can tell."""

import ast
import builtins
import os
import unittest

ROOT = os.path.dirname(os.path.dirname(os.path.abspath(__file__)))
PACKAGE = os.path.join(ROOT, "wirestack")
ALLOWED_BUILTINS = set("""len range enumerate zip min max sum abs sorted reversed int str bool list tuple dict set isinstance
    ord repr any all divmod super Exception ValueError TypeError KeyError IndexError LookupError""".split())
BUILTIN_METHODS = set("""append clear copy count endswith extend find get index insert isalnum isalpha isdigit islower isspace
    isupper items join keys ljust lower lstrip partition pop remove replace reverse rfind rjust rpartition rsplit rstrip
    setdefault split splitlines startswith strip update upper values zfill bit_length""".split())
CHANGING_ATTRIBUTES = set("""items keys values pop update append clear extend insert remove reverse setdefault sort args encode
    decode hex fromhex format""".split())
BARRED = set("""mro elements open input law version_info with_traceback add_note register attrgetter breakpoint builtins compile
    copyright credits delattr dir eval exec exit gc getattr globals hasattr help id importlib license locals methodcaller os quit
    setattr type vars sys typing typing_extensions enum Enum IntEnum StrEnum Flag IntFlag Generic Protocol ABC ABCMeta namedtuple
    NamedTuple TypedDict TYPE_CHECKING abstractmethod""".split())
BARRED_NODES = (ast.AsyncFunctionDef, ast.AsyncFor, ast.AsyncWith, ast.Await, ast.Global, ast.Div, ast.MatMult, ast.Set,
                ast.SetComp, ast.Yield, ast.YieldFrom, ast.NamedExpr, ast.Starred, ast.AnnAssign, ast.Lambda, ast.Nonlocal)


def sources():
    for name in sorted(os.listdir(PACKAGE)):
        if name != "__pycache__":
            with open(os.path.join(PACKAGE, name), encoding="utf-8") as file:
                yield name, file.read()


TREES = {name: ast.parse(text) for name, text in sources() if name.endswith(".py")}
NODES = [(name, node) for name, tree in TREES.items() for node in ast.walk(tree)]
CLASSES = [(name, node) for name, node in NODES if isinstance(node, ast.ClassDef)]


def methods_of(node):
    return [part for part in node.body if isinstance(part, ast.FunctionDef)]


def assigned_names(node):
    return [part for part in ast.walk(node) if isinstance(part, ast.Name) and isinstance(part.ctx, ast.Store)]


class FileTest(unittest.TestCase):
    def test_files_have_plain_names_and_nothing_else_is_there(self):
        for name, _ in sources():
            self.assertRegex(name, r"^[a-z_]+\.py$")

    def test_sizes_and_characters(self):
        for name, text in sources():
            lines = text.split("\n")
            self.assertLess(len(lines), 400, name)
            for number, line in enumerate(lines, 1):
                self.assertLessEqual(len(line), 120, (name, number))
            self.assertTrue(all(sign == "\n" or " " <= sign <= "~" for sign in text), name)
            self.assertNotIn("_wall", text)
            for word in ("dataclass", "overload", "contextmanager"):
                self.assertNotIn(word, text)

    def test_functions_have_at_most_40_lines_and_a_docstring(self):
        for name, node in NODES:
            if isinstance(node, ast.FunctionDef):
                self.assertLessEqual(node.end_lineno - node.lineno + 1, 40, (name, node.name))
                self.assertTrue(node.name == "__init__" or ast.get_docstring(node), (name, node.name))
                self.assertEqual(node.decorator_list, [])


class ModuleTest(unittest.TestCase):
    def test_modules_hold_imports_functions_classes_and_constants_alone(self):
        for name, tree in TREES.items():
            bound = []
            for place, node in enumerate(tree.body):
                if isinstance(node, ast.Expr):
                    self.assertTrue(place == 0 and isinstance(node.value, ast.Constant), name)
                elif isinstance(node, ast.Assign):
                    self.assertEqual([part.__class__ for part in node.targets], [ast.Name])
                    self.assertFalse(any(isinstance(part, (ast.Call, ast.ListComp)) for part in ast.walk(node)))
                    bound.append(node.targets[0].id)
                elif isinstance(node, ast.ImportFrom):
                    bound.extend(part.name for part in node.names)
                else:
                    self.assertIsInstance(node, (ast.FunctionDef, ast.ClassDef))
                    bound.append(node.name)
            self.assertEqual(len(bound), len(set(bound)), name)

    def test_imports_name_the_file_that_defines_the_name(self):
        leads = {}
        for name, node in NODES:
            self.assertNotIsInstance(node, ast.Import)
            if isinstance(node, ast.ImportFrom):
                self.assertTrue(node.level == 0 and node.module.startswith("wirestack."), name)
                file = node.module[len("wirestack."):] + ".py"
                leads.setdefault(name, []).append(file)
                defined = [part.name for part in TREES[file].body if isinstance(part, (ast.FunctionDef, ast.ClassDef))]
                defined.extend(part.targets[0].id for part in TREES[file].body if isinstance(part, ast.Assign))
                used = {part.id for part in ast.walk(TREES[name]) if isinstance(part, ast.Name)}
                for part in node.names:
                    self.assertIn(part.name, defined)
                    self.assertIn(part.name, used, (name, "is not used"))
                    self.assertIsNone(part.asname)
        rest = set(TREES)
        while rest:
            ready = {name for name in rest if not rest & set(leads.get(name, []))}
            self.assertTrue(ready, "files import from each other")
            rest -= ready


class NameTest(unittest.TestCase):
    def test_no_barred_words(self):
        for name, node in NODES:
            words = []
            if isinstance(node, ast.Name):
                words.append(node.id)
            elif isinstance(node, (ast.FunctionDef, ast.ClassDef)):
                words.append(node.name)
            elif isinstance(node, ast.arg):
                words.append(node.arg)
            elif isinstance(node, ast.Attribute):
                words.append(node.attr)
            elif isinstance(node, ast.keyword):
                words.append(node.arg)
            elif isinstance(node, ast.ExceptHandler) and node.name:
                words.append(node.name)
            for word in words:
                self.assertNotIn(word, BARRED, name)
                self.assertTrue(not word.startswith("_") or word in ("_", "__init__"), (name, word))

    def test_no_builtin_is_given_another_meaning(self):
        known = set(dir(builtins))
        for name, node in NODES:
            if isinstance(node, ast.arg):
                self.assertNotIn(node.arg, known, name)
            if isinstance(node, ast.Name) and isinstance(node.ctx, ast.Store):
                self.assertNotIn(node.id, known, name)
        for name, tree in TREES.items():
            for node in tree.body:
                if isinstance(node, (ast.FunctionDef, ast.ClassDef)):
                    self.assertNotIn(node.name, known)

    def test_no_local_name_is_that_of_something_of_the_module(self):
        for name, tree in TREES.items():
            bound = {part.name for node in tree.body if isinstance(node, ast.ImportFrom) for part in node.names}
            bound |= {node.name for node in tree.body if isinstance(node, (ast.ClassDef, ast.FunctionDef))}
            bound |= {node.targets[0].id for node in tree.body if isinstance(node, ast.Assign)}
            for node in ast.walk(tree):
                if isinstance(node, ast.FunctionDef):
                    local = {part.id for part in assigned_names(node)} | {part.arg for part in node.args.args}
                    self.assertEqual(local & bound, set(), (name, node.name))

    def test_only_listed_builtins_and_methods_are_called(self):
        own = {part.name for _, node in CLASSES for part in methods_of(node)}
        for name, tree in TREES.items():
            bound = {part.name for node in tree.body if isinstance(node, ast.ImportFrom) for part in node.names}
            bound |= {node.name for node in tree.body if isinstance(node, (ast.ClassDef, ast.FunctionDef))}
            # A function may be passed as a parameter and called by its name.
            passed = {part.arg for part in ast.walk(tree) if isinstance(part, ast.arg)}
            for node in ast.walk(tree):
                if isinstance(node, ast.Call) and isinstance(node.func, ast.Name):
                    self.assertIn(node.func.id, bound | passed | ALLOWED_BUILTINS, name)
                elif isinstance(node, ast.Call):
                    self.assertIsInstance(node.func, ast.Attribute, name)
                    self.assertIn(node.func.attr, own | BUILTIN_METHODS | {"__init__"}, name)


class CodeTest(unittest.TestCase):
    def test_no_barred_statements_and_expressions(self):
        for name, node in NODES:
            self.assertNotIsInstance(node, BARRED_NODES, name)
            if isinstance(node, ast.Constant):
                self.assertIn(node.value.__class__, (int, str, bool, None.__class__), name)
            if isinstance(node, ast.ImportFrom):
                self.assertNotIn("*", [part.name for part in node.names])

    def test_no_percent_sign_in_strings(self):
        for name, node in NODES:
            if isinstance(node, ast.Constant) and isinstance(node.value, str):
                self.assertNotIn("%", node.value, name)

    def test_is_stands_beside_none_true_and_false_alone(self):
        for name, node in NODES:
            if isinstance(node, ast.Compare):
                for sign, other in zip(node.ops, node.comparators):
                    if isinstance(sign, (ast.Is, ast.IsNot)):
                        self.assertTrue(isinstance(other, ast.Constant) and other.value in (None, True, False), name)

    def test_exponents_are_literals(self):
        for name, node in NODES:
            if isinstance(node, ast.BinOp) and isinstance(node.op, ast.Pow):
                self.assertTrue(isinstance(node.right, ast.Constant) and 0 <= node.right.value <= 64, name)

    def test_errors_are_own_ones_created_on_the_spot(self):
        errors = {node.name for name, node in CLASSES if name == "errors.py"}
        for name, node in NODES:
            if isinstance(node, ast.Raise):
                self.assertTrue(isinstance(node.exc, ast.Call) and node.exc.func.id in errors, name)
                self.assertEqual(node.exc.keywords, [])
            if isinstance(node, ast.ExceptHandler):
                self.assertIn(node.type.id, errors, name)

    def test_generator_expressions_stand_in_any_and_all_alone(self):
        calls = [node for _, node in NODES if isinstance(node, ast.Call)]
        allowed = [node.args[0] for node in calls if isinstance(node.func, ast.Name) and node.func.id in ("any", "all")]
        for name, node in NODES:
            if isinstance(node, ast.GeneratorExp):
                self.assertIn(node, allowed, name)
                self.assertNotIsInstance(node.generators[0].iter, ast.Call, name)

    def test_views_and_ranges_are_iterated_on_the_spot(self):
        spots = []
        for _, node in NODES:
            if isinstance(node, (ast.For, ast.comprehension)):
                spots.append(node.iter)
            elif isinstance(node, ast.Call) and isinstance(node.func, ast.Name):
                if node.func.id in ("list", "tuple", "dict", "sorted", "sum", "any", "all"):
                    spots.extend(node.args[:1])
        for name, node in NODES:
            if isinstance(node, ast.Call):
                word = node.func.attr if isinstance(node.func, ast.Attribute) else node.func.id
                if word in ("range", "zip", "enumerate", "reversed", "items", "keys", "values"):
                    self.assertIn(node, spots, (name, node.lineno))


class ClassTest(unittest.TestCase):
    def attributes_of(self, node):
        return {part.attr for part in ast.walk(node) if isinstance(part, ast.Attribute) and isinstance(part.ctx, ast.Store)
                and isinstance(part.value, ast.Name) and part.value.id == "self"}

    def test_no_name_is_a_method_and_an_attribute_of_a_class(self):
        for name, node in CLASSES:
            methods = [part.name for part in methods_of(node)]
            self.assertEqual(len(methods), len(set(methods)), node.name)
            self.assertEqual(set(methods) & self.attributes_of(node), set(), node.name)
            self.assertFalse(self.attributes_of(node) & CHANGING_ATTRIBUTES, node.name)

    def test_attributes_that_are_read_are_assigned_somewhere(self):
        known = {name for _, node in CLASSES for name in self.attributes_of(node)}
        known |= {part.name for _, node in CLASSES for part in methods_of(node)}
        for name, node in NODES:
            if isinstance(node, ast.Attribute):
                self.assertIn(node.attr, known | BUILTIN_METHODS | {"__init__"}, name)

    def test_attributes_are_set_when_an_object_is_created(self):
        for name, node in CLASSES:
            set_above = set()
            for base in node.bases:
                for _, other in CLASSES:
                    if other.name == base.id:
                        set_above |= self.attributes_of(other)
            for part in methods_of(node):
                if part.name == "__init__":
                    known = self.attributes_of(part) | set_above
                    self.assertEqual(self.attributes_of(node) - known, set(), node.name)

    def test_class_bodies_hold_methods_alone(self):
        for name, node in CLASSES:
            for place, part in enumerate(node.body):
                if isinstance(part, ast.Expr):
                    self.assertTrue(place == 0 and isinstance(part.value, ast.Constant))
                else:
                    self.assertIsInstance(part, ast.FunctionDef)


if __name__ == "__main__":
    unittest.main()
