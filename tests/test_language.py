"""Rules of ../shared/LANGUAGE.md that can be seen file by file, and the interface by its names."""

import ast
import builtins
import pathlib
import re
import unittest

PACKAGE = pathlib.Path(__file__).resolve().parent.parent / "marginwords"
FILES = sorted(PACKAGE.glob("*.py"))

BUILTINS = set(
    """len range enumerate zip min max sum abs sorted reversed int str bool list tuple dict set isinstance ord repr
    any all divmod iter next Exception ValueError TypeError KeyError IndexError LookupError ZeroDivisionError""".split()
)
METHODS = set(
    """append clear copy count endswith extend find get index insert isalnum isalpha isdigit islower isspace isupper
    items join keys ljust lower lstrip partition pop remove replace reverse rfind rjust rpartition rsplit rstrip
    setdefault split splitlines startswith strip update upper values zfill bit_length add discard sort
    removeprefix""".split()
)
BARRED_WORDS = """type typing enum Enum Flag Generic Protocol ABC namedtuple NamedTuple TypedDict dataclass
    overload contextmanager abstractmethod""".split()
BARRED_NAMES = set("register mro elements open input law version_info id dir vars eval exec super hash".split())

INTERFACE = {
    "kinds": {"is_number": ["thing"], "is_word": ["thing"], "is_letters": ["thing"], "is_name": ["thing"]},
    "deeds": {"is_deed": ["thing"], "names_in": ["deed"]},
    "changes": {"is_change": ["thing"]},
    "knowing": {
        "change_of": ["ledger", "name"], "known": ["ledger", "name"], "knows": ["ledger", "one", "other"],
        "tops": ["ledger"], "branch_names": ["ledger", "branch"], "upto": ["ledger", "name"],
        "without": ["ledger", "names"],
    },
    "joining": {"joined": ["one", "other"], "common": ["one", "other"], "is_part": ["one", "other"]},
    "roads": {
        "is_road": ["ledger", "thing"], "road_by_names": ["ledger"], "exchanged": ["road", "k"],
        "unlike_pairs": ["one", "other"],
    },
    "exchangechecker": {"lets_exchanges": ["ledger", "one", "other", "thing"]},
    "exchanges": {"exchange_paper": ["ledger", "one", "other"]},
    "laying": {"slot_rows": ["ledger"]},
    "order": {"slot_order": ["ledger"]},
    "orderchecker": {"lets_order": ["ledger", "thing"]},
    "showing": {
        "all_signs": ["ledger"], "touches": ["ledger", "sign"], "moves_of": ["ledger", "sign"],
        "is_shown": ["ledger", "sign"], "slot_of": ["ledger", "sign"],
    },
    "texts": {"letter_of": ["ledger", "sign"], "signs": ["ledger"], "text": ["ledger"]},
    "fitting": {"misfit": ["ledger", "hand", "deed"]},
    "ledgers": {"lets_ledger": ["thing"]},
    "making": {"made": ["ledger", "branch", "hand", "deed"], "laid_on": ["ledger", "change"]},
    "spans": {"remarks": ["ledger"], "span": ["ledger", "remark"], "in_span": ["ledger", "remark", "slot"]},
    "holding": {
        "within": ["ledger", "remark", "slot"], "hold_word": ["ledger", "remark", "sign"],
        "held": ["ledger", "remark"],
    },
    "holdchecker": {"lets_held": ["ledger", "remark", "thing"]},
    "holdpapers": {"hold_paper": ["ledger", "remark"]},
    "stands": {"stand": ["ledger", "remark"], "look": ["ledger", "remark"]},
    "losing": {"last_row": ["ledger", "sign"], "loser": ["ledger", "remark"]},
    "losschecker": {"lets_loss": ["ledger", "remark", "name", "thing"]},
    "losspapers": {"loss_paper": ["ledger", "remark"]},
    "talking": {"answers": ["ledger", "remark"], "decided": ["ledger", "remark"]},
    "calling": {"is_up": ["ledger", "remark"], "caller": ["ledger", "remark"], "word_of": ["ledger", "remark"]},
    "keeping": {"kept": ["one", "other"], "falling_rows": ["one", "other"], "keep_paper": ["one", "other"]},
    "keepchecker": {"lets_kept": ["one", "other", "thing"]},
    "scripts": {
        "applied": ["row", "thing"], "shortest_steps": ["one", "other"], "fewest_steps": ["one", "other"],
    },
    "freeing": {"freed": ["ledger", "remark"]},
    "freechecker": {"lets_free": ["ledger", "remark", "thing"]},
    "freepapers": {"free_paper": ["ledger", "remark"]},
    "standchecker": {"lets_stand": ["ledger", "remark", "thing"]},
    "standpapers": {"stand_paper": ["ledger", "remark"]},
    "lines": {"shown_change": ["change"], "shown_ledger": ["ledger"], "shown_stand": ["stand"]},
    "readings": {"read_change": ["text"], "read_ledger": ["lines"]},
}
CLASSES = {
    "sheet": {
        "Sheet": {
            "lay": ["change"], "names": [], "ledger": [], "signs": [], "text": [], "stand": ["remark"],
            "word_of": ["remark"],
        },
    },
    "book": {
        "Book": {
            "begin": ["branch", "other"], "do": ["branch", "hand", "deed"], "take_in": ["branch", "hand", "other"],
            "bring": ["ledger"], "strike": [], "branches": [], "now": ["branch"], "whole": [], "own": [],
            "view": ["name"],
        },
    },
    "desk": {"Desk": {"say": ["row"]}},
}
OWN_ERRORS = set("NoPaper NoChange NoJoin NoName NoBase NoBranch NoStrike NoText NoRow".split())


def tree_of(path):
    return ast.parse(path.read_text(encoding="ascii"))


def bound_names(tree):
    """All names that a file gives to anything but attributes."""
    for node in ast.walk(tree):
        if isinstance(node, (ast.FunctionDef, ast.ClassDef)):
            yield node.name
        elif isinstance(node, ast.arg):
            yield node.arg
        elif isinstance(node, ast.Name) and isinstance(node.ctx, ast.Store):
            yield node.id


def own_methods():
    """The names of all methods that the package defines."""
    classes = [node for path in FILES for node in ast.walk(tree_of(path)) if isinstance(node, ast.ClassDef)]
    return {method.name for node in classes for method in node.body if isinstance(method, ast.FunctionDef)}


def own_attributes():
    """The names of all attributes that the package assigns."""
    nodes = [node for path in FILES for node in ast.walk(tree_of(path)) if isinstance(node, ast.Attribute)]
    return {node.attr for node in nodes if isinstance(node.ctx, ast.Store)}


def imported_names(tree):
    return {alias.asname or alias.name for node in imports(tree) for alias in node.names}


def imports(tree):
    return [node for node in ast.walk(tree) if isinstance(node, (ast.Import, ast.ImportFrom))]


class Rules(unittest.TestCase):
    def test_the_folder_holds_plain_files_only(self):
        inside = {path.name for path in PACKAGE.iterdir()} - {"__pycache__"}
        self.assertEqual(inside, {path.name for path in FILES})
        self.assertIn("__init__.py", inside)
        for name in inside - {"__init__.py"}:
            self.assertRegex(name, r"\A[a-z][a-z0-9_]*\.py\Z")

    def test_signs_and_sizes(self):
        for path in FILES:
            text = path.read_text(encoding="ascii")
            self.assertRegex(text, r"\A[ -~\n]*\Z", path.name)
            self.assertLess(len(text.splitlines()), 400, path.name)
            self.assertLessEqual(max(map(len, text.splitlines())), 120, path.name)
            for word in BARRED_WORDS:
                self.assertIsNone(re.search(rf"\b{word}\b", text), (path.name, word))
            for node in ast.walk(tree_of(path)):
                if isinstance(node, ast.FunctionDef):
                    self.assertLessEqual(node.end_lineno - node.lineno + 1, 40, node.name)

    def test_imports(self):
        for path in FILES:
            for node in imports(tree_of(path)):
                self.assertIsInstance(node, ast.ImportFrom, path.name)
                self.assertEqual((node.level, node.module.split(".")[0]), (0, "marginwords"), path.name)
                home = tree_of(PACKAGE / (node.module.split(".")[1] + ".py"))
                here = {each.name for each in home.body if isinstance(each, (ast.FunctionDef, ast.ClassDef))}
                here |= {each.targets[0].id for each in home.body if isinstance(each, ast.Assign)}
                for alias in node.names:
                    self.assertIn(alias.name, here, path.name)

    def test_no_import_goes_round(self):
        goes = {path.stem: {node.module.split(".")[1] for node in imports(tree_of(path))} for path in FILES}
        while goes:
            free = [name for name in goes if not goes[name] & set(goes)]
            self.assertTrue(free, goes)
            goes = {name: goes[name] for name in goes if name not in free}

    def test_names(self):
        for path in FILES:
            tree = tree_of(path)
            imported = imported_names(tree)
            classes = {node.name for node in tree.body if isinstance(node, ast.ClassDef)}
            functions = {node.name for node in tree.body if isinstance(node, ast.FunctionDef)}
            for name in bound_names(tree):
                if name != "__init__":
                    self.assertRegex(name, r"\A[A-Za-z][A-Za-z0-9_]*\Z", path.name)
                    self.assertNotIn(name, imported | set(dir(builtins)) | BARRED_NAMES, path.name)
            for node in ast.walk(tree):
                if isinstance(node, ast.Name) and isinstance(node.ctx, ast.Store):
                    self.assertNotIn(node.id, classes | functions, path.name)

    def test_builtins_and_methods(self):
        methods = METHODS | own_methods()
        for path in FILES:
            tree = tree_of(path)
            own = set(bound_names(tree)) | imported_names(tree)
            for node in ast.walk(tree):
                if isinstance(node, ast.Name) and isinstance(node.ctx, ast.Load):
                    self.assertIn(node.id, own | BUILTINS, path.name)
                if isinstance(node, ast.Call) and isinstance(node.func, ast.Attribute):
                    self.assertIn(node.func.attr, methods, path.name)

    def test_methods_and_attributes(self):
        builtin = {name for kind in (str, int, list, dict, set, bytes, tuple) for name in dir(kind)}
        methods = own_methods() - {"__init__"}
        self.assertEqual(methods & own_attributes(), set())
        self.assertEqual((methods | own_attributes()) & builtin, set())
        self.assertEqual((methods | own_attributes()) & BARRED_NAMES, set())
        nodes = [node for path in FILES for node in ast.walk(tree_of(path)) if isinstance(node, ast.Attribute)]
        self.assertLessEqual({node.attr for node in nodes}, methods | own_attributes() | METHODS | {"__init__"})

    def test_each_import_is_used_and_bound_once(self):
        for path in FILES:
            tree = tree_of(path)
            bound = [alias.asname or alias.name for node in imports(tree) for alias in node.names]
            bound += [node.name for node in tree.body if isinstance(node, (ast.FunctionDef, ast.ClassDef))]
            bound += [node.targets[0].id for node in tree.body if isinstance(node, ast.Assign)]
            self.assertEqual(len(bound), len(set(bound)), path.name)
            used = {node.id for node in ast.walk(tree) if isinstance(node, ast.Name)}
            self.assertLessEqual(imported_names(tree), used, path.name)

    def test_statements_and_expressions(self):
        barred = (ast.Global, ast.AsyncFunctionDef, ast.Await, ast.Div, ast.Starred, ast.SetComp, ast.Set)
        for path in FILES:
            for node in ast.walk(tree_of(path)):
                self.assertNotIsInstance(node, barred, (path.name, getattr(node, "lineno", 0)))
                if isinstance(node, ast.Try):
                    self.assertEqual((node.orelse, node.finalbody), ([], []), path.name)
                if isinstance(node, ast.ExceptHandler):
                    self.assertIsInstance(node.type, ast.Name, path.name)
                    self.assertIn(node.type.id, OWN_ERRORS, path.name)
                if isinstance(node, ast.Constant):
                    self.assertNotIsInstance(node.value, (float, complex), path.name)
                    self.assertFalse(isinstance(node.value, str) and "%" in node.value, path.name)
                if isinstance(node, ast.Compare):
                    for sign, right in zip(node.ops, node.comparators):
                        if isinstance(sign, (ast.Is, ast.IsNot)):
                            self.assertIn(getattr(right, "value", "no"), (None, True, False), path.name)

    def test_module_level(self):
        plain = (ast.Import, ast.ImportFrom, ast.FunctionDef, ast.ClassDef, ast.Assign)
        for path in FILES:
            tree = tree_of(path)
            self.assertIsNotNone(ast.get_docstring(tree), path.name)
            for node in tree.body[1:]:
                self.assertIsInstance(node, plain, path.name)
            inner = [node for node in ast.walk(tree) if isinstance(node, ast.FunctionDef) and node.decorator_list]
            self.assertEqual(inner, [], path.name)

    def test_each_function_of_the_interface_stands_in_its_file(self):
        for stem, functions in INTERFACE.items():
            here = {node.name: node for node in tree_of(PACKAGE / f"{stem}.py").body if isinstance(node, ast.FunctionDef)}
            for name, wanted in functions.items():
                self.assertIn(name, here, stem)
                self.assertEqual([arg.arg for arg in here[name].args.args], wanted, name)

    def test_each_method_of_the_interface_stands_in_its_class(self):
        for stem, classes in CLASSES.items():
            here = {node.name: node for node in tree_of(PACKAGE / f"{stem}.py").body if isinstance(node, ast.ClassDef)}
            for title, wanted in classes.items():
                self.assertEqual(here[title].bases, [])
                methods = {node.name: node for node in here[title].body if isinstance(node, ast.FunctionDef)}
                self.assertEqual([arg.arg for arg in methods["__init__"].args.args], ["self"])
                for name, arguments in wanted.items():
                    self.assertEqual([arg.arg for arg in methods[name].args.args], ["self", *arguments], name)


if __name__ == "__main__":
    unittest.main()
