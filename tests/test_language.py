"""The rules of the language that can be read off the files of the package, rule by rule."""

import ast
import builtins
import os
import re
import unittest

FOLDER = os.path.join(os.path.dirname(os.path.dirname(os.path.abspath(__file__))), "handledeeds")

BUILTINS = set(
    "len range enumerate zip min max sum abs sorted reversed int str bool list tuple dict set frozenset isinstance "
    "ord repr any all divmod pow getattr hasattr setattr iter next map type Exception ValueError TypeError KeyError "
    "IndexError LookupError ZeroDivisionError ArithmeticError OverflowError RuntimeError NotImplementedError "
    "StopIteration NotImplemented super property staticmethod classmethod".split()
)

METHODS = set(
    "append clear copy count endswith extend find get index insert isalnum isalpha isdigit islower isspace isupper "
    "items join keys ljust lower lstrip partition pop remove replace reverse rfind rjust rpartition rsplit rstrip "
    "setdefault split splitlines startswith strip update upper values zfill bit_length title capitalize swapcase "
    "casefold center expandtabs removeprefix removesuffix rindex isascii isdecimal isnumeric istitle isidentifier "
    "isprintable translate add discard sort".split()
)

BARRED_NAMES = set(
    "register mro elements open input law version_info with_traceback add_note attrgetter breakpoint builtins compile "
    "copyright credits delattr dir eval exec exit gc globals help id importlib license locals methodcaller os quit "
    "vars sys".split()
)

BARRED_WORDS = set(
    "typing typing_extensions enum Enum IntEnum StrEnum Flag IntFlag Generic Protocol ABC ABCMeta namedtuple "
    "NamedTuple TypedDict TYPE_CHECKING abstractmethod dataclass overload contextmanager".split()
)

SPECIAL = set(
    "__init__ __eq__ __repr__ __str__ __len__ __enter__ __exit__ __call__ __iter__ __lt__ __le__ __gt__ __ge__ __ne__ "
    "__bool__ __contains__ __getitem__ __setitem__".split()
)


def read_files():
    told = {}
    for name in sorted(os.listdir(FOLDER)):
        if name != "__pycache__":
            with open(os.path.join(FOLDER, name), encoding="utf-8") as file:
                told[name] = file.read()
    return told


FILES = read_files()
TREES = {name: ast.parse(text) for name, text in FILES.items()}


NODES = [(name, node) for name, tree in TREES.items() for node in ast.walk(tree)]


def nodes(*kinds):
    """The pairs (file's name, node) of all nodes of these kinds."""
    return [(name, node) for name, node in NODES if isinstance(node, kinds)]


def is_plain_value(node, functions):
    """Whether a value may stand at module level: literals, and in dicts functions of the file."""
    if isinstance(node, ast.Dict) and all(isinstance(value, ast.Name) for value in node.values):
        return all(value.id in functions for value in node.values)
    ast.literal_eval(node)
    return True


def bound_names():
    """The pairs (file's name, NAME) of all that is bound: functions, classes, parameters, variables."""
    told = [(name, node.name) for name, node in nodes(ast.FunctionDef, ast.ClassDef)]
    told.extend([(name, node.arg) for name, node in nodes(ast.arg)])
    told.extend([(name, node.id) for name, node in nodes(ast.Name) if isinstance(node.ctx, ast.Store)])
    return told


def imported():
    """The triples (file's name, file that it imports from, NAME)."""
    return [(name, node.module, alias.name) for name, node in nodes(ast.ImportFrom) for alias in node.names]


def defined(name):
    """What a file binds at module level by itself, each as often as it's bound."""
    told = []
    for node in TREES[name].body:
        if isinstance(node, (ast.FunctionDef, ast.ClassDef)):
            told.append(node.name)
        elif isinstance(node, ast.Assign):
            told.extend([target.id for target in node.targets])
    return told


class LanguageTest(unittest.TestCase):
    def test_l1_l14_files(self):
        self.assertIn("__init__.py", FILES)
        for name in FILES:
            self.assertTrue(re.fullmatch(r"[a-z0-9_]+\.py", name), name)
            self.assertNotIn(name[:-3], dir(builtins))

    def test_l10_l14_sizes_and_signs(self):
        for name, text in FILES.items():
            lines = text.split("\n")
            self.assertLessEqual(len(lines) - 1, 399, name)
            self.assertLessEqual(max(map(len, lines)), 120, name)
            self.assertTrue(all(sign == "\n" or " " <= sign <= "~" for sign in text), name)
        for name, node in nodes(ast.FunctionDef):
            self.assertLessEqual(node.end_lineno - node.lineno + 1, 40, (name, node.name))

    def test_l2_l16_imports(self):
        self.assertEqual(nodes(ast.Import), [])
        for name, module, word in imported():
            folder, _, file = module.partition(".")
            self.assertEqual(folder, "handledeeds", name)
            self.assertIn(word, defined(file + ".py"), (name, word))
        for name, node in nodes(ast.ImportFrom):
            self.assertIn(node, TREES[name].body)
            self.assertEqual([alias.asname for alias in node.names], [None] * len(node.names))

    def test_l16_no_round_of_imports(self):
        needs = {name: set() for name in FILES}
        for name, module, _ in imported():
            needs[name].add(module.partition(".")[2] + ".py")
        while needs:
            done = [name for name in needs if not needs[name] & set(needs)]
            self.assertTrue(done, needs)
            needs = {name: needs[name] for name in needs if name not in done}

    def test_l3_l15_module_level(self):
        kinds = (ast.ImportFrom, ast.FunctionDef, ast.ClassDef, ast.Assign)
        for name, tree in TREES.items():
            self.assertTrue(ast.get_docstring(tree), name)
            functions = []
            for node in tree.body[1:]:
                self.assertIsInstance(node, kinds, name)
                if isinstance(node, ast.FunctionDef):
                    functions.append(node.name)
                if isinstance(node, ast.Assign):
                    self.assertTrue(is_plain_value(node.value, functions), name)
            words = defined(name) + [word for file, _, word in imported() if file == name]
            self.assertEqual(len(words), len(set(words)), name)

    def test_l4_l5_functions_and_classes_are_plain(self):
        homes = list(TREES.values()) + [around for _, around in nodes(ast.ClassDef)]
        outer = [node for home in homes for node in home.body]
        for name, node in nodes(ast.FunctionDef, ast.ClassDef):
            self.assertEqual(node.decorator_list, [], (name, node.name))
            self.assertIn(node, outer, (name, node.name))
        for name, node in nodes(ast.arguments):
            for default in node.defaults + [told for told in node.kw_defaults if told is not None]:
                self.assertIsInstance(default, (ast.Constant, ast.Name, ast.Tuple), name)
        self.assertEqual(nodes(ast.Lambda, ast.GeneratorExp, ast.Yield, ast.YieldFrom, ast.NamedExpr, ast.Match), [])

    def test_l7_l27_stars_and_powers(self):
        for name, node in nodes(ast.Call):
            for at, arg in enumerate(node.args):
                if isinstance(arg, ast.Starred):
                    self.assertIsInstance(arg.value, (ast.Name, ast.Attribute), name)
                    self.assertEqual(at, len(node.args) - 1, name)
            self.assertTrue(all(told.arg is not None for told in node.keywords), name)
        for name, node in nodes(ast.BinOp):
            if isinstance(node.op, ast.Pow):
                self.assertIsInstance(node.right, ast.Constant, name)

    def test_l18_l26_attributes(self):
        methods = set([node.name for _, around in nodes(ast.ClassDef) for node in around.body if isinstance(node, ast.FunctionDef)])
        stored = set([node.attr for _, node in nodes(ast.Attribute) if isinstance(node.ctx, ast.Store)])
        self.assertEqual(stored & (METHODS - {"count", "index", "title", "find", "lower", "upper", "split", "strip", "copy"}), set())
        classes = [around.name for _, around in nodes(ast.ClassDef)]
        for name, node in nodes(ast.Attribute):
            self.assertIn(node.attr, methods | stored | METHODS, name)
            # A name that's both in two classes is read off no class.
            self.assertFalse(isinstance(node.value, ast.Name) and node.value.id in classes, name)
        for name, node in nodes(ast.Attribute):
            if isinstance(node.ctx, ast.Store):
                self.assertIsInstance(node.value, ast.Name, (name, node.attr))
        for name, around in nodes(ast.ClassDef):
            told = [node.name for node in around.body if isinstance(node, ast.FunctionDef)]
            self.assertEqual(len(told), len(set(told)), (name, around.name))
            own = [node.attr for node in ast.walk(around) if isinstance(node, ast.Attribute) and isinstance(node.ctx, ast.Store)]
            self.assertEqual(set(told) & set(own), set(), (name, around.name))

    def test_l19_errors(self):
        own = defined("errors.py")
        for name, node in nodes(ast.ExceptHandler):
            for caught in node.type.elts if isinstance(node.type, ast.Tuple) else [node.type]:
                self.assertIn(caught.id, own, name)
        handled = [raised for _, handler in nodes(ast.ExceptHandler) for raised in ast.walk(handler)]
        for name, node in nodes(ast.Raise):
            if node.exc is None:
                self.assertIn(node, handled, name)
            else:
                self.assertIn(node.exc.func.id, own, name)

    def test_l22_l23_builtins(self):
        once = ("zip", "enumerate", "reversed", "range")
        for name, node in nodes(ast.Assign, ast.Return):
            if isinstance(node.value, ast.Call):
                word = node.value.func.id if isinstance(node.value.func, ast.Name) else node.value.func.attr
                self.assertNotIn(word, (*once, "items", "keys", "values"), name)
        for name, node in nodes(ast.Call):
            if isinstance(node.func, ast.Name) and node.func.id in BUILTINS:
                self.assertLessEqual(set([told.arg for told in node.keywords]), {"key", "reverse", "default", "start", "strict"}, name)
            elif isinstance(node.func, ast.Attribute) and node.func.attr in METHODS:
                self.assertEqual(node.keywords, [], name)

    def test_l6_l7_statements_and_values(self):
        self.assertEqual(nodes(ast.AsyncFunctionDef, ast.Await, ast.TryStar, ast.Div, ast.Set, ast.Global), [])
        for name, node in nodes(ast.Constant):
            self.assertNotIsInstance(node.value, (float, complex), name)

    def test_l8_builtins(self):
        for name, node in nodes(ast.Name):
            if node.id in dir(builtins):
                self.assertIn(node.id, BUILTINS, name)
        for name, node in nodes(ast.Compare):
            if isinstance(node.ops[0], (ast.Is, ast.IsNot)) and not isinstance(node.left, ast.Call):
                self.assertIn(node.comparators[0].value, (None, True, False), name)

    def test_l12_l15_l17_names(self):
        for name, word in bound_names():
            self.assertNotIn(word, BARRED_NAMES, name)
            self.assertNotIn(word, dir(builtins), name)
            self.assertFalse(word.startswith("__") and word not in SPECIAL, (name, word))
            self.assertFalse(word in [given for file, _, given in imported() if file == name], (name, word))
        for name, node in nodes(ast.Attribute):
            self.assertNotIn(node.attr, BARRED_NAMES, name)

    def test_l15_no_local_name_is_a_class_of_its_file(self):
        classes = [(name, node.name) for name, node in nodes(ast.ClassDef)]
        for name, node in nodes(ast.arg):
            self.assertNotIn((name, node.arg), classes)
        for name, node in nodes(ast.Name):
            self.assertFalse(isinstance(node.ctx, ast.Store) and (name, node.id) in classes, (name, node.id))

    def test_l17_words(self):
        for name, text in FILES.items():
            self.assertEqual(BARRED_WORDS & set(re.findall(r"\w+", text)), set(), name)
        for name, node in nodes(ast.Name):
            if node.id == "type":
                found = [call for _, call in nodes(ast.Call) if call.func is node]
                self.assertEqual(len(found), 1, name)

    def test_l24_sets(self):
        for name, node in nodes(ast.Call):
            if isinstance(node.func, ast.Name) and node.func.id == "set":
                around = [call for _, call in nodes(ast.Call) if node in call.args]
                self.assertEqual([call.func.id for call in around], ["sorted"], name)

    def test_l25_methods(self):
        own = set([node.name for _, node in nodes(ast.FunctionDef)])
        for name, node in nodes(ast.Call):
            if isinstance(node.func, ast.Attribute):
                self.assertIn(node.func.attr, METHODS | own, name)

    def test_l25_no_method_is_handed_on(self):
        called = set([node.func for _, node in nodes(ast.Call)])
        stored = set([node.attr for _, node in nodes(ast.Attribute) if isinstance(node.ctx, ast.Store)])
        classes = [around for _, around in nodes(ast.ClassDef)]
        own = {around: set([node.name for node in around.body if isinstance(node, ast.FunctionDef)]) for around in classes}
        methods = set().union(*own.values())
        told = [node for _, node in nodes(ast.Attribute) if node.attr in methods - stored and node not in called]
        # What's an attribute of another class may be read; not off an object of the class of which it's a method.
        for around in classes:
            read = [node for node in ast.walk(around) if isinstance(node, ast.Attribute) and node not in called]
            told.extend([node for node in read if node.attr in own[around] and getattr(node.value, "id", "") == "self"])
        self.assertEqual([(node.lineno, node.attr) for node in told], [])

    def test_l27_strings(self):
        for name, node in nodes(ast.Constant):
            if isinstance(node.value, str):
                self.assertNotIn("%", node.value, name)
