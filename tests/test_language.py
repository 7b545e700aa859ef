"""The package's files keep to LANGUAGE.md: what of its rules can be seen in the code."""

import ast
import builtins
import pathlib
import re
import unittest
import warnings

PACKAGE = pathlib.Path(__file__).resolve().parent.parent / "lackcry"
FILES = sorted(PACKAGE.rglob("*.py"))

# The interface's names, by the file that must define them.
INTERFACE = {
    "errors": (
        "NotSo", "Gone", "TooMany", "TooFew", "NoWish", "BadHouse", "BadFile", "BadWishes", "NoSpares",
        "NoText", "NoLine", "NoLot", "ByDay", "ByNight", "NoNumber", "NoFile", "NoHand", "Over",
    ),
    "lots": ("choose", "is_lot", "lot_at", "number_of", "lots"),
    "signs": ("sign", "laid", "without", "with_hand"),
    "outers": ("is_outer", "part", "plus", "times", "outer"),
    "files": ("is_prime", "is_file", "piece", "spread"),
    "shelves": ("shelf", "has", "lack"),
    "wishes": ("is_wishes", "wished", "wishers", "leaders"),
    "making": ("made", "is_made", "made_at", "made_number"),
    "cries": ("terms", "cry", "cries", "all_cries", "comes_by", "freed"),
    "leftout": ("left_many", "told_by", "all_from"),
    "telling": ("told_file", "known"),
    "binding": ("binding", "shows_binding"),
    "judging": ("ours", "judged"),
    "papers": ("enough", "shows_enough", "alike", "shows_alike"),
    "losses": ("spare", "with_spares", "restored"),
    "house": ("House",),
    "showing": ("show_file", "show_wishes", "show_making", "show_house"),
    "reading": ("read_file", "read_wishes", "read_making", "read_house"),
    "desk": ("Desk",),
}
PARAMETERS = {
    "choose": ["n", "k"],
    "is_lot": ["hands", "size", "thing"],
    "lot_at": ["hands", "size", "number"],
    "number_of": ["hands", "lot"],
    "lots": ["hands", "size"],
    "sign": ["hand", "lot"],
    "laid": ["one", "other"],
    "without": ["lot", "hand"],
    "with_hand": ["lot", "hand"],
    "is_outer": ["p", "hands", "grade", "thing"],
    "part": ["sum_", "lot"],
    "plus": ["p", "one", "other"],
    "times": ["p", "sum_", "many"],
    "outer": ["p", "one", "other"],
    "is_prime": ["n"],
    "is_file": ["p", "hands", "t", "thing"],
    "piece": ["hands", "file", "lot"],
    "spread": ["p", "hands", "t", "file"],
    "shelf": ["hands", "t", "hand", "file"],
    "has": ["hands", "t", "hand", "number"],
    "lack": ["hands", "t"],
    "is_wishes": ["hands", "files", "thing"],
    "wished": ["wishes"],
    "wishers": ["wishes", "number"],
    "leaders": ["wishes"],
    "made": ["t", "wishes"],
    "is_made": ["wishes", "lot"],
    "made_at": ["t", "wishes", "number"],
    "made_number": ["wishes", "lot"],
    "terms": ["wishes", "lot"],
    "cry": ["p", "files", "wishes", "lot"],
    "cries": ["p", "t", "files", "wishes"],
    "all_cries": ["p", "t", "files", "wishes"],
    "comes_by": ["wishes", "hand", "lot"],
    "freed": ["p", "wishes", "hand", "files", "lot", "number"],
    "left_many": ["wishes", "lot"],
    "told_by": ["wishes", "lot"],
    "all_from": ["p", "t", "wishes", "cries"],
    "told_file": ["p", "t", "wishes", "hand", "files", "cries"],
    "known": ["p", "t", "wishes", "hand", "files", "heard"],
    "binding": ["t", "wishes"],
    "shows_binding": ["t", "wishes", "thing"],
    "ours": ["p", "t", "wishes"],
    "judged": ["p", "t", "wishes", "making"],
    "enough": ["p", "t", "wishes", "making"],
    "shows_enough": ["p", "t", "wishes", "making", "thing"],
    "alike": ["p", "t", "wishes", "making"],
    "shows_alike": ["p", "t", "wishes", "making", "thing"],
    "spare": ["p", "cries", "j"],
    "with_spares": ["p", "cries", "many"],
    "restored": ["p", "m", "heard"],
    "show_file": ["file"],
    "show_wishes": ["wishes"],
    "show_making": ["making"],
    "show_house": ["house"],
    "read_file": ["text"],
    "read_wishes": ["text"],
    "read_making": ["text"],
    "read_house": ["text"],
}
# The methods that stand in the class itself, with what they take behind self.
CLASS_METHODS = {
    ("house", "House"): {
        "__init__": ["hands", "t", "p"], "bring": ["file"], "drop": ["number"], "files": [], "shelf": ["hand"],
        "day": ["wishes", "*", "spares"], "call": [], "lose": [], "away": ["hand"], "home": ["hand"], "night": [],
        "heard": ["hand"], "pieces": ["hand"], "knows": ["hand"], "is_day": [], "copy": [], "__eq__": ["other"],
        "__len__": [],
    },
    ("desk", "Desk"): {"__init__": ["text"], "say": ["line"]},
}
BUILTINS = set(
    "len range enumerate zip min max sum abs sorted reversed int str bool bytes list tuple dict set frozenset "
    "isinstance ord repr any all divmod iter next Exception ValueError TypeError KeyError IndexError LookupError "
    "ZeroDivisionError ArithmeticError OverflowError RuntimeError NotImplementedError AttributeError StopIteration "
    "NotImplemented property staticmethod classmethod super".split()
)
METHODS = set(
    "append clear copy count endswith extend find get index insert isalnum isalpha isdigit islower isspace isupper "
    "items join keys ljust lower lstrip partition pop remove replace reverse rfind rjust rpartition rsplit rstrip "
    "setdefault split splitlines startswith strip update upper values zfill bit_length add discard sort isascii".split()
)
DOUBLE = set(
    "__init__ __eq__ __repr__ __str__ __len__ __enter__ __exit__ __call__ __iter__".split()
)
NEVER_NAMES = set(
    "register mro elements open input law version_info with_traceback add_note attrgetter breakpoint builtins compile "
    "copyright credits delattr dir eval exec exit gc getattr globals hasattr help id importlib license locals "
    "methodcaller os quit setattr type vars sys".split()
)
NEVER_WORDS = (
    r"\b(type|typing|typing_extensions|enum|Enum|IntEnum|StrEnum|Flag|IntFlag|Generic|Protocol|ABC|ABCMeta|"
    r"namedtuple|NamedTuple|TypedDict|TYPE_CHECKING|abstractmethod)\b|dataclass|overload|contextmanager"
)
STATEMENTS = (
    ast.FunctionDef, ast.ClassDef, ast.Return, ast.Delete, ast.Assign, ast.AugAssign, ast.AnnAssign, ast.For,
    ast.While, ast.If, ast.With, ast.Match, ast.Raise, ast.Try, ast.Assert, ast.ImportFrom, ast.Nonlocal,
    ast.Expr, ast.Pass, ast.Break, ast.Continue,
)
FUNCTIONS = (ast.FunctionDef, ast.Lambda)


def tree_of(path):
    return ast.parse(path.read_text(encoding="ascii"))


def nodes(path, kinds):
    return [node for node in ast.walk(tree_of(path)) if isinstance(node, kinds)]


def bound_names(path):
    """All names that the file binds: variables, parameters, functions, classes, imports, caught errors."""
    told = [node.id for node in nodes(path, ast.Name) if not isinstance(node.ctx, ast.Load)]
    told += [node.arg for node in nodes(path, ast.arg)]
    told += [node.name for node in nodes(path, (ast.FunctionDef, ast.ClassDef))]
    told += [alias.asname or alias.name for node in nodes(path, ast.ImportFrom) for alias in node.names]
    told += [node.name for node in nodes(path, ast.ExceptHandler) if node.name]
    return told


def top_names(path):
    """The names of the file's own functions, classes and values, in their order."""
    told = []
    for node in tree_of(path).body:
        if isinstance(node, (ast.FunctionDef, ast.ClassDef)):
            told.append(node.name)
        elif isinstance(node, ast.Assign):
            told += [target.id for target in node.targets]
    return told


def own_methods():
    return {
        part.name
        for path in FILES
        for node in nodes(path, ast.ClassDef)
        for part in node.body
        if isinstance(part, ast.FunctionDef)
    }


class EachFile(unittest.TestCase):
    def each(self, check):
        self.assertTrue(FILES)
        for path in FILES:
            with self.subTest(path.name):
                check(path)

    def test_l1_l14_files(self):
        self.assertTrue((PACKAGE / "__init__.py").is_file())
        for path in PACKAGE.rglob("*"):
            if "__pycache__" not in path.parts:
                self.assertTrue(path.is_file(), path)
                self.assertRegex(path.name, r"^(__init__|__main__|[a-z][a-z0-9_]*)\.py$")
                self.assertNotRegex(path.stem, r"^(law_.*|tests?|testing|test_.*|site|conftest|.*customize)$")
                self.assertNotIn(path.stem, dir(builtins))
        self.assertLessEqual(len(FILES), 100)

    def test_l10_l14_characters_and_sizes(self):
        def check(path):
            data = path.read_bytes()
            self.assertTrue(all(byte == 10 or 32 <= byte <= 126 for byte in data))
            rows = data.decode("ascii").split("\n")
            self.assertLessEqual(len(rows), 399)
            self.assertLessEqual(max(len(row) for row in rows), 120)
            for node in nodes(path, ast.FunctionDef):
                self.assertLessEqual(node.end_lineno - node.lineno + 1, 40, node.name)

        self.each(check)

    def test_no_line_that_python_warns_of(self):
        def check(path):
            with warnings.catch_warnings():
                warnings.simplefilter("error")
                compile(path.read_text(encoding="ascii"), path.name, "exec")

        self.each(check)

    def test_l2_l16_imports(self):
        def check(path):
            self.assertEqual(nodes(path, ast.Import), [])
            for node in nodes(path, ast.ImportFrom):
                self.assertEqual(node.level, 0)
                self.assertRegex(node.module, r"^lackcry\.[a-z0-9_]+$")
                source = PACKAGE / (node.module.partition(".")[2] + ".py")
                for alias in node.names:
                    self.assertIn(alias.name, top_names(source))
            body = tree_of(path).body
            if body and isinstance(body[0], ast.Expr):
                body = body[1:]
            above = [isinstance(node, ast.ImportFrom) for node in body]
            self.assertEqual(above, sorted(above, reverse=True))

        self.each(check)

    def test_l16_no_ring_of_imports(self):
        needs = {
            path.stem: {node.module.partition(".")[2] for node in nodes(path, ast.ImportFrom)} for path in FILES
        }
        while needs:
            free = [stem for stem in needs if not needs[stem] & set(needs)]
            self.assertTrue(free, needs)
            for stem in free:
                del needs[stem]

    def test_l3_l15_module_level(self):
        def check(path):
            for at, node in enumerate(tree_of(path).body):
                if isinstance(node, ast.Expr):
                    self.assertEqual(at, 0)
                    self.assertIsInstance(node.value, ast.Constant)
                elif isinstance(node, ast.Assign):
                    self.assertEqual(len(node.targets), 1)
                    self.assertIsInstance(node.targets[0], ast.Name)
                else:
                    self.assertIsInstance(node, (ast.ImportFrom, ast.FunctionDef, ast.ClassDef))
            bound = top_names(path)
            bound += [alias.asname or alias.name for node in nodes(path, ast.ImportFrom) for alias in node.names]
            self.assertEqual(len(bound), len(set(bound)))
            classes = {node.name for node in nodes(path, ast.ClassDef)}
            self.assertEqual(classes - set(bound), set())

        self.each(check)

    def test_l4_l5_l6_statements(self):
        def check(path):
            for node in nodes(path, ast.stmt):
                self.assertIsInstance(node, STATEMENTS, ast.dump(node)[:80])
            for node in nodes(path, FUNCTIONS):
                self.assertEqual(node.args.posonlyargs, [])
            for node in nodes(path, ast.ClassDef):
                self.assertEqual((node.decorator_list, node.keywords), ([], []))
            for node in nodes(path, ast.Expr):
                self.assertIsInstance(node.value, (ast.Constant, ast.Call, ast.Yield, ast.YieldFrom))

        self.each(check)

    def test_l7_l20_l27_expressions(self):
        def check(path):
            for node in nodes(path, ast.Constant):
                self.assertIsInstance(node.value, (int, str, bytes, type(None)))
                if isinstance(node.value, str):
                    self.assertNotIn("%", node.value)
            self.assertEqual(nodes(path, (ast.Div, ast.MatMult)), [])
            for node in nodes(path, ast.BinOp):
                if isinstance(node.op, ast.Pow):
                    self.assertIsInstance(node.right, ast.Constant)
            for node in nodes(path, ast.Compare):
                for sign, right in zip(node.ops, node.comparators):
                    if isinstance(sign, (ast.Is, ast.IsNot)):
                        self.assertIsInstance(right, ast.Constant)
                        self.assertIn(right.value, (None, True, False))

        self.each(check)

    def test_l8_l12_l15_l17_names(self):
        python = set(dir(builtins))

        def check(path):
            for name in bound_names(path):
                if name in DOUBLE:
                    continue
                self.assertRegex(name, r"^[A-Za-z][A-Za-z0-9_]*$")
                self.assertNotIn(name, NEVER_NAMES)
                self.assertNotIn(name, python)
            for node in nodes(path, ast.Name):
                if node.id in python:
                    self.assertIn(node.id, BUILTINS)
            local = {node.arg for node in nodes(path, ast.arg)}
            inside = [node for node in nodes(path, ast.Name) if not isinstance(node.ctx, ast.Load)]
            local |= {node.id for node in inside if node.col_offset}
            taken = {node.name for node in nodes(path, ast.ClassDef)}
            taken |= {alias.name for node in nodes(path, ast.ImportFrom) for alias in node.names}
            self.assertEqual(local & taken, set())

        self.each(check)

    def test_l17_words_nowhere(self):
        self.each(lambda path: self.assertNotRegex(path.read_text(encoding="ascii"), re.compile(NEVER_WORDS)))

    def test_l25_methods(self):
        allowed = METHODS | own_methods()

        def check(path):
            for node in nodes(path, ast.Call):
                if isinstance(node.func, ast.Attribute):
                    self.assertIn(node.func.attr, allowed)

        self.each(check)

    def test_l23_nothing_iterated_at_once_is_stored(self):
        def check(path):
            for node in nodes(path, (ast.Assign, ast.Return)):
                if isinstance(node.value, ast.Call):
                    called = node.value.func
                    self.assertNotIn(
                        called.id if isinstance(called, ast.Name) else called.attr,
                        ("zip", "enumerate", "reversed", "range", "items", "keys", "values"),
                    )
            for node in nodes(path, (ast.Assign, ast.Return)):
                self.assertNotIsInstance(node.value, ast.GeneratorExp)

        self.each(check)

    def test_l7_any_and_the_like_take_lists(self):
        def check(path):
            for node in nodes(path, ast.Call):
                if isinstance(node.func, ast.Name) and node.func.id in ("any", "all", "min", "max", "sum", "sorted"):
                    self.assertFalse([part for part in node.args if isinstance(part, ast.GeneratorExp)])

        self.each(check)

    def test_l18_no_name_is_a_method_and_an_attribute(self):
        stored = {
            node.attr for path in FILES for node in nodes(path, ast.Attribute) if not isinstance(node.ctx, ast.Load)
        }
        self.assertEqual(stored & own_methods(), set())
        read = {
            node.attr for path in FILES for node in nodes(path, ast.Attribute) if isinstance(node.ctx, ast.Load)
        }
        self.assertEqual(read - stored - own_methods() - METHODS, set())

    def test_l19_errors_are_raised_and_caught_by_name(self):
        own = {node.name for node in nodes(PACKAGE / "errors.py", ast.ClassDef)}

        def check(path):
            for node in nodes(path, ast.Raise):
                self.assertIsInstance(node.exc, ast.Call)
                self.assertIn(node.exc.func.id, own)
            for node in nodes(path, ast.ExceptHandler):
                self.assertIn(node.type.id, own)

        self.each(check)

    def test_l24_sets_are_used_on_the_spot_or_stored_once(self):
        def check(path):
            for node in nodes(path, (ast.For, ast.comprehension)):
                self.assertNotIsInstance(node.iter, (ast.Set, ast.SetComp))
                if isinstance(node.iter, ast.Call) and isinstance(node.iter.func, ast.Name):
                    self.assertNotEqual(node.iter.func.id, "set")

        self.each(check)


class Interface(unittest.TestCase):
    def test_each_name_is_defined_in_its_file(self):
        for stem, names in INTERFACE.items():
            there = {
                node.name for node in tree_of(PACKAGE / (stem + ".py")).body
                if isinstance(node, (ast.FunctionDef, ast.ClassDef))
            }
            self.assertEqual(set(names) - there, set(), stem)

    def test_arguments_have_the_names_told(self):
        for stem, names in INTERFACE.items():
            for node in nodes(PACKAGE / (stem + ".py"), ast.FunctionDef):
                if node.name in names:
                    self.assertEqual([arg.arg for arg in node.args.args], PARAMETERS[node.name], node.name)
                    self.assertEqual(node.args.defaults, [])

    def test_methods_stand_in_their_class(self):
        for (stem, name), methods in CLASS_METHODS.items():
            (place,) = [node for node in tree_of(PACKAGE / (stem + ".py")).body if getattr(node, "name", "") == name]
            there = {}
            for node in place.body:
                if isinstance(node, ast.FunctionDef):
                    told = [arg.arg for arg in node.args.args]
                    if node.args.kwonlyargs:
                        told += ["*"] + [arg.arg for arg in node.args.kwonlyargs]
                    self.assertEqual(told[0], "self")
                    there[node.name] = told[1:]
            for method, names in methods.items():
                self.assertEqual(there.get(method), names, method)


if __name__ == "__main__":
    unittest.main()
