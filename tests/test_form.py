"""The form of the code: the names of the interface stand in their files, and the simple rules of the language hold."""

import ast
import builtins
import unittest
from pathlib import Path

PACKAGE = Path(__file__).resolve().parent.parent / "lostweights"

INTERFACE = {
    "errors.py": {
        "WeightError": ["ValueError"],
        **{name: ["WeightError"] for name in (
            "BadBox", "BadLoss", "BadNumber", "BadPrices", "BadChances", "BadStep", "BadOrders", "BadLine", "TooMany",
        )},
    },
    "boxes.py": {
        "safe": ["box", "lost"], "gap": ["box", "lost"], "most_lost": ["box", "load"], "edge": ["box"],
        "spare": ["box", "lost"], "best_added": ["box", "lost"],
    },
    "losses.py": {
        "left": ["box", "loss"], "loads": ["box", "loss"], "sure_loads": ["box", "lost"],
        "weigh": ["box", "loss", "load"], "flaw": ["box", "lost"], "shows_flaw": ["box", "lost", "value"],
    },
    "bests.py": {
        "best_box": ["many", "lost"], "best_safe": ["many", "lost"], "count_safe": ["many", "lost", "load", "top"],
        "fewest_weights": ["lost", "load"], "cheapest": ["prices", "lost", "load"],
        "shows_cheapest": ["prices", "lost", "load", "value"],
    },
    "chances.py": {"chance_safe": ["box", "chances", "load"], "mean_safe": ["box", "chances"]},
    "benches.py": {"Bench": []},
    "texts.py": {
        "box_text": ["box"], "loss_text": ["box", "loss"], "orders_text": ["box", "orders"], "tale": ["box", "orders"],
        "read_box": ["text"], "read_loss": ["box", "text"], "read_orders": ["text"],
    },
    "ways.py": {
        "lots": ["box", "loss", "load"], "ways": ["box", "loss", "load"], "shortest_lot": ["box", "loss", "load"],
        "least_ways": ["box", "lost", "load"], "strength": ["box", "load"], "breaking": ["box", "load"],
    },
    "days.py": {"chance_after": ["box", "chances", "days", "load"], "mean_days": ["box", "chances", "load"]},
    "pans.py": {
        "both_loads": ["box", "loss"], "spread": ["box", "loss", "load"],
        "shows_spread": ["box", "loss", "load", "value"], "both_safe": ["box", "lost"],
    },
    "finds.py": {
        "finds": ["box", "loss", "load"], "fewest_finds": ["box", "loss", "load"], "worst_losses": ["box", "lost"],
    },
    "desks.py": {"Desk": []},
}

# For each class of the interface its methods with their arguments, and its properties.
METHODS = {
    ("benches.py", "Bench"): {
        "__init__": ["self", "box"], "lose": ["self", "place"], "find": ["self", "place"], "weigh": ["self", "load"],
        "least_unweighed": ["self"],
    },
    ("desks.py", "Desk"): {"__init__": ["self", "box"], "do": ["self", "line"], "undo": ["self"], "text": ["self"]},
}
PROPERTIES = {("benches.py", "Bench"): ["lost", "left", "reach"], ("desks.py", "Desk"): []}

# What is imported from outside of the package: small exact helpers that the language names.
LIBRARY = {("itertools", "combinations"), ("math", "gcd")}

ALLOWED_BUILTINS = set("""len range enumerate zip min max sum abs sorted reversed int str bool list tuple dict set
    isinstance ord repr any all divmod super property ValueError""".split())
BARRED_WORDS = ("type", "typing", "enum", "Enum", "namedtuple", "dataclass", "overload", "contextmanager", "__class__")


def sources():
    return {path.name: path.read_text(encoding="utf-8") for path in sorted(PACKAGE.glob("*.py"))}


def nodes(kind):
    return [(name, node) for name, text in sources().items() for node in ast.walk(ast.parse(text))
            if isinstance(node, kind)]


def bound_names(tree):
    for node in ast.walk(tree):
        if isinstance(node, ast.arg):
            yield node.arg
        elif isinstance(node, (ast.FunctionDef, ast.ClassDef)):
            yield node.name
        elif isinstance(node, ast.Name) and isinstance(node.ctx, ast.Store):
            yield node.id


class InterfaceTest(unittest.TestCase):
    def test_each_name_is_defined_in_its_file_with_its_arguments(self):
        texts = sources()
        for name, wanted in INTERFACE.items():
            found = {}
            for node in ast.parse(texts[name]).body:
                if isinstance(node, ast.FunctionDef):
                    found[node.name] = [arg.arg for arg in node.args.args]
                elif isinstance(node, ast.ClassDef):
                    found[node.name] = [base.id for base in node.bases]
            for word, told in wanted.items():
                self.assertEqual(found.get(word), told, (name, word))

    def test_each_method_is_defined_in_its_class_itself(self):
        found = {(name, node.name): node for name, node in nodes(ast.ClassDef)}
        for key, wanted in METHODS.items():
            functions = [one for one in found[key].body if isinstance(one, ast.FunctionDef)]
            told = {one.name: [arg.arg for arg in one.args.args] for one in functions if not one.decorator_list}
            self.assertEqual({name: told.get(name) for name in wanted}, wanted, key)
            properties = [one.name for one in functions if [ast.unparse(word) for word in one.decorator_list] == ["property"]]
            self.assertLessEqual(set(PROPERTIES[key]), set(properties), key)


class FormTest(unittest.TestCase):
    def test_the_package_holds_only_plain_files(self):
        names = [path.name for path in PACKAGE.iterdir() if path.name != "__pycache__"]
        self.assertTrue(all(name.endswith(".py") and name == name.lower() for name in names), names)
        self.assertIn("__init__.py", names)

    def test_sizes_and_characters(self):
        for name, text in sources().items():
            lines = text.splitlines()
            self.assertLessEqual(len(lines), 399, name)
            self.assertLessEqual(max(map(len, lines), default=0), 120, name)
            self.assertTrue(all(sign == "\n" or " " <= sign <= "~" for sign in text), name)
        for name, node in nodes(ast.FunctionDef):
            self.assertLessEqual(node.end_lineno - node.lineno + 1, 40, (name, node.name))

    def test_imports(self):
        for name, node in nodes((ast.Import, ast.ImportFrom)):
            self.assertIsInstance(node, ast.ImportFrom, name)
            words = [alias.name for alias in node.names]
            self.assertTrue(all(alias.asname is None for alias in node.names), name)
            if not node.module.startswith("lostweights."):
                self.assertLessEqual({(node.module, word) for word in words}, LIBRARY, name)
            self.assertEqual(node.level, 0, name)

    def test_nothing_that_the_language_leaves_out(self):
        barred = (ast.AsyncFunctionDef, ast.Global, ast.Div, ast.AnnAssign, ast.Set, ast.SetComp, ast.GeneratorExp)
        self.assertEqual(nodes(barred), [])
        self.assertEqual([node.value for _, node in nodes(ast.Constant) if isinstance(node.value, (float, complex))], [])
        self.assertEqual([name for name, node in nodes(ast.FunctionDef) if node.returns], [])
        decorators = [ast.unparse(one) for _, node in nodes(ast.FunctionDef) for one in node.decorator_list]
        self.assertLessEqual(set(decorators), {"property"})
        self.assertEqual([name for name, node in nodes(ast.arg) if node.annotation], [])

    def test_names(self):
        for name, text in sources().items():
            for word in bound_names(ast.parse(text)):
                if word != "__init__":
                    self.assertFalse(hasattr(builtins, word) or word.startswith("__"), (name, word))
        for name, node in nodes(ast.Name):
            if hasattr(builtins, node.id):
                self.assertIn(node.id, ALLOWED_BUILTINS, name)
            self.assertNotIn(node.id, BARRED_WORDS, name)

    def test_each_name_is_bound_once_at_module_level(self):
        for name, text in sources().items():
            words = []
            for node in ast.parse(text).body:
                if isinstance(node, ast.ImportFrom):
                    words += [alias.name for alias in node.names]
                elif isinstance(node, (ast.FunctionDef, ast.ClassDef)):
                    words.append(node.name)
                elif isinstance(node, ast.Assign):
                    words += [target.id for target in node.targets]
            self.assertEqual(len(words), len(set(words)), name)


if __name__ == "__main__":
    unittest.main()
