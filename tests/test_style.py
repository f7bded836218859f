"""The rules of LANGUAGE.md that can be seen from the text, and the names of the interface."""

import ast
import os
import re
import unittest

FOLDER = os.path.join(os.path.dirname(os.path.dirname(os.path.abspath(__file__))), "bagkinds")
# The modules in the order of the interface; each imports only from those before it.
ORDER = (
    "errors", "languages", "formulas", "stores", "forms", "turning", "kinds", "needs", "tables", "books", "roots",
    "deciding", "growing", "ranks", "finite", "questions", "plain", "lines", "leasts", "lists", "clashes", "joining",
    "keeping", "texts", "desk",
)
INTERFACE = {
    "languages": {"check_language": "value", "width": "language", "relation_number": "language name"},
    "formulas": {
        "check_formula": "language value free", "free_terms": "formula", "all_terms": "formula",
        "term_sorts": "language formula free", "is_condition": "formula", "renamed_terms": "formula pairs",
    },
    "stores": {"check_store": "language value", "thing_sorts": "store", "holds": "store formula values"},
    "forms": {
        "check_form": "language value", "shared": "form", "new": "form", "sentence_of": "form",
        "breaks": "store form", "keeps": "store form", "guarded_sets": "store",
    },
    "turning": {"to_forms": "language sentence"},
    "kinds": {
        "row_atoms": "language sorts", "canonical": "language sorts atoms", "kind_of": "language store things",
        "cut": "language kind slots", "guarded_slots": "kind", "is_guarded": "kind", "kind_breaks": "kind form",
        "is_lawful": "forms kind", "sort_rows": "language", "all_kinds": "language forms",
    },
    "needs": {
        "ways": "kind form", "needs": "forms kind", "meeting": "forms need kind other exact",
        "at_home": "forms need kind", "serving": "forms number other exact",
    },
    "tables": {
        "greatest_table": "language forms", "strikes": "language forms", "missing_once": "language forms",
        "is_table": "language forms kinds", "always": "language forms guard c", "ever": "language forms guard c",
    },
    "books": {
        "check_book": "value", "keeps_book": "book store places", "book_of": "language sentences names facts",
    },
    "roots": {
        "name_atoms": "book", "root_sets": "book root", "root_kind": "book root names", "is_root": "book root",
        "find_root": "book", "check_shut": "book value",
    },
    "deciding": {"has_store": "book", "decide": "book", "check_decision": "book value"},
    "growing": {"grow": "book decision depth"},
    "ranks": {
        "is_wide": "need", "below_pair": "forms kind need other way", "rank_of": "language forms kinds pair",
        "starters": "language forms",
    },
    "finite": {"is_good": "book root", "finite_store": "book"},
    "questions": {
        "deny": "book question", "follows": "book question", "check_follows": "book question value",
        "answers": "book formula variables", "with_names": "formula variables names", "against": "book question",
    },
    "plain": {
        "is_plain": "form", "closure": "language forms sorts atoms", "once_clash": "language forms", "closed_facts": "book",
    },
    "lines": {
        "derive": "book atom", "check_derived": "book atom value", "bar": "book atom", "check_bar": "book atom value",
    },
    "leasts": {"least_store": "book depth", "map_into": "first places second others"},
    "lists": {"least_hitting": "sets", "are_lists": "size least greatest"},
    "clashes": {
        "least_clashes": "book groups", "grounds": "book question", "fact_mends": "book",
        "follows_in_all": "book question",
    },
    "joining": {
        "beside": "first second", "times": "first second", "part_of": "store things", "renamed": "store order",
    },
    "texts": {
        "write_formula": "language formula", "read_formula": "language text", "write_book": "book", "read_book": "text",
    },
}
CLASSES = {
    "keeping": ("Keeper", {
        "__init__": "self book", "__len__": "self", "add_form": "self form", "drop_form": "self number",
        "add_fact": "self fact", "drop_fact": "self number", "add_name": "self sort", "drop_name": "self", "undo": "self",
        "follows": "self question", "book": "self", "table": "self", "has_store": "self", "kept": "self",
    }),
    "desk": ("Desk", {"__init__": "self text", "answer": "self line"}),
}
PROPERTIES = ("book", "table", "has_store", "kept")
BUILTINS = (
    "len range enumerate zip min max sum abs sorted reversed int str bool list tuple dict set isinstance ord repr any "
    "all divmod type property ValueError KeyError"
).split()
METHODS = (
    "append clear copy count endswith extend find get index insert isalnum isalpha isdigit islower isspace isupper items "
    "join keys ljust lower lstrip partition pop remove replace reverse rfind rjust rpartition rsplit rstrip setdefault "
    "split splitlines startswith strip update upper values zfill bit_length add discard"
).split()
BARRED_NAMES = (
    "mro elements open input law version_info with_traceback add_note register compile copyright credits delattr dir "
    "eval exec exit gc globals hash help id importlib license locals map next iter filter format object os print pow quit "
    "round slice super sys vars hex bin oct chr"
).split()
BARRED_WORDS = (
    "typing typing_extensions enum Enum IntEnum StrEnum Flag IntFlag Generic Protocol ABC ABCMeta namedtuple NamedTuple "
    "TypedDict TYPE_CHECKING abstractmethod dataclass overload contextmanager _wall _WallAttr"
).split()
BARRED_NODES = (
    ast.AsyncFunctionDef, ast.Await, ast.Global, ast.Nonlocal, ast.With, ast.Div, ast.MatMult, ast.GeneratorExp,
    ast.Lambda, ast.Yield, ast.YieldFrom, ast.NamedExpr, ast.AnnAssign, ast.Delete, ast.Import, ast.Match, ast.Starred,
)


def sources():
    for name in sorted(os.listdir(FOLDER)):
        if name.endswith(".py"):
            with open(os.path.join(FOLDER, name), encoding="ascii") as file:
                yield name[:-3], file.read()


class TextTest(unittest.TestCase):
    def test_files(self):
        names = [name for name in os.listdir(FOLDER) if name != "__pycache__"]
        for name in names:
            self.assertTrue(name == "__init__.py" or name[:-3] in ORDER and name.endswith(".py"), name)

    def test_sizes(self):
        for name, text in sources():
            lines = text.split("\n")
            self.assertLessEqual(len(lines) - 1, 399, name)
            self.assertTrue(text.endswith("\n") and not text.endswith("\n\n"), name)
            for number, line in enumerate(lines, 1):
                self.assertLessEqual(len(line), 120, (name, number))
                self.assertTrue(all(" " <= letter <= "~" for letter in line), (name, number))
                self.assertEqual(line, line.rstrip(), (name, number))
            for node in ast.walk(ast.parse(text)):
                if isinstance(node, ast.FunctionDef):
                    self.assertLessEqual(node.end_lineno - node.lineno + 1, 40, (name, node.name))

    def test_words(self):
        for name, text in sources():
            found = re.findall(r"[A-Za-z_]+", text)
            self.assertEqual([word for word in BARRED_WORDS if word in found], [], name)
            self.assertEqual(re.findall(r"\btype\b(?!\()", text), [], name)
            self.assertNotIn("%", text, name)


class TreeTest(unittest.TestCase):
    def test_nodes(self):
        for name, text in sources():
            for node in ast.walk(ast.parse(text)):
                told = (name, getattr(node, "lineno", 0))
                self.assertNotIsInstance(node, BARRED_NODES, told)
                marks = getattr(node, "decorator_list", [])
                if name == "keeping" and isinstance(node, ast.FunctionDef) and node.name in PROPERTIES:
                    self.assertEqual([mark.id for mark in marks], ["property"], told)
                else:
                    self.assertEqual(marks, [], told)
                if isinstance(node, ast.Constant):
                    self.assertIn(node.value.__class__, (int, str, bool, type(None)), told)
                if isinstance(node, ast.ImportFrom):
                    self.assertEqual(node.level, 0, told)

    def test_module_level(self):
        for name, text in sources():
            bound = []
            for node in ast.parse(text).body:
                if isinstance(node, ast.Assign):
                    self.assertEqual(len(node.targets), 1, name)
                    self.assertFalse([part for part in ast.walk(node.value) if isinstance(part, ast.Call)], name)
                    bound.append(node.targets[0].id)
                elif isinstance(node, ast.ImportFrom):
                    bound.extend(alias.name for alias in node.names)
                elif isinstance(node, (ast.FunctionDef, ast.ClassDef)):
                    bound.append(node.name)
                else:
                    self.assertIsInstance(node.value.value, str, name)
            self.assertEqual(len(bound), len(set(bound)), name)

    def test_imports(self):
        own = {name: own_names(text) for name, text in sources()}
        for name, text in sources():
            for node in ast.walk(ast.parse(text)):
                if isinstance(node, ast.ImportFrom):
                    package, module = node.module.split(".")
                    self.assertEqual(package, "bagkinds")
                    self.assertLess(ORDER.index(module), ORDER.index(name))
                    for alias in node.names:
                        self.assertIn(alias.name, own[module])
                        self.assertIsNone(alias.asname)

    def test_names(self):
        for name, text in sources():
            tree = ast.parse(text)
            known = set(own_names(text)) | {alias.name for node in ast.walk(tree) if isinstance(node, ast.ImportFrom)
                                            for alias in node.names}
            for node in ast.walk(tree):
                told = (name, getattr(node, "lineno", 0))
                if isinstance(node, ast.arg):
                    self.assertNotIn(node.arg, known, told)
                    self.assertNotIn(node.arg, BUILTINS + BARRED_NAMES, told)
                elif isinstance(node, ast.Name) and isinstance(node.ctx, ast.Store):
                    self.assertNotIn(node.id, BUILTINS + BARRED_NAMES, told)
                    self.assertTrue(node.id.isupper() or node.id not in known, told)
                elif isinstance(node, (ast.FunctionDef, ast.ClassDef)):
                    self.assertNotIn(node.name, BUILTINS + BARRED_NAMES, told)
            for function in [node for node in ast.walk(tree) if isinstance(node, ast.FunctionDef)]:
                local = {node.id for node in ast.walk(function)
                         if isinstance(node, ast.Name) and isinstance(node.ctx, ast.Store)}
                local |= {node.arg for node in ast.walk(function) if isinstance(node, ast.arg)}
                for node in ast.walk(function):
                    if isinstance(node, ast.Name) and isinstance(node.ctx, ast.Load):
                        self.assertIn(node.id, list(local | known) + BUILTINS, (name, node.lineno))
                        self.assertNotEqual(node.id, "_", (name, node.lineno))

    def test_methods(self):
        own = {node.name for _, text in sources() for part in ast.parse(text).body if isinstance(part, ast.ClassDef)
               for node in part.body if isinstance(node, ast.FunctionDef)}
        for name, text in sources():
            for node in ast.walk(ast.parse(text)):
                if isinstance(node, ast.Call) and isinstance(node.func, ast.Attribute):
                    self.assertIn(node.func.attr, list(own) + METHODS, (name, node.lineno))

    def test_sets(self):
        for name, text in sources():
            tree = ast.parse(text)
            right = []
            for node in ast.walk(tree):
                if isinstance(node, ast.Call) and isinstance(node.func, ast.Name) and node.func.id in ("sorted", "len"):
                    right.extend(node.args)
                elif isinstance(node, ast.Compare):
                    right.extend(node.comparators + [node.left])
                elif isinstance(node, ast.Assign) and isinstance(node.targets[0], ast.Name):
                    right.append(node.value)
            for node in ast.walk(tree):
                call = isinstance(node, ast.Call) and isinstance(node.func, ast.Name) and node.func.id == "set"
                if call or isinstance(node, (ast.Set, ast.SetComp)):
                    self.assertIn(node, right, (name, node.lineno))

    def test_views_are_iterated_at_once(self):
        for name, text in sources():
            tree = ast.parse(text)
            right = []
            for node in ast.walk(tree):
                if isinstance(node, (ast.For, ast.comprehension)):
                    right.append(node.iter)
                elif isinstance(node, ast.Call) and isinstance(node.func, ast.Name):
                    right.extend(node.args[:1] if node.func.id in ("list", "tuple", "dict", "sorted") else [])
            for node in ast.walk(tree):
                if isinstance(node, ast.Call) and isinstance(node.func, ast.Name):
                    if node.func.id in ("zip", "enumerate", "reversed", "range"):
                        self.assertIn(node, right, (name, node.lineno))


class InterfaceTest(unittest.TestCase):
    def test_functions_stand_in_their_files(self):
        texts = dict(sources())
        for module, functions in INTERFACE.items():
            found = {node.name: " ".join(arg.arg for arg in node.args.args)
                     for node in ast.parse(texts[module]).body if isinstance(node, ast.FunctionDef)}
            for function, parameters in functions.items():
                self.assertEqual(found.get(function), parameters, (module, function))

    def test_methods_stand_in_their_classes(self):
        texts = dict(sources())
        for module, (name, methods) in CLASSES.items():
            found = [node for node in ast.parse(texts[module]).body if isinstance(node, ast.ClassDef) and node.name == name]
            told = {node.name: " ".join(arg.arg for arg in node.args.args)
                    for node in found[0].body if isinstance(node, ast.FunctionDef)}
            for method, parameters in methods.items():
                self.assertEqual(told.get(method), parameters, (module, method))

    def test_no_attribute_has_the_name_of_a_property(self):
        for name, text in sources():
            for node in ast.walk(ast.parse(text)):
                if isinstance(node, ast.Attribute) and isinstance(node.ctx, ast.Store):
                    self.assertNotIn(node.attr, PROPERTIES, (name, node.lineno))


def own_names(text):
    found = []
    for node in ast.parse(text).body:
        if isinstance(node, (ast.FunctionDef, ast.ClassDef)):
            found.append(node.name)
        elif isinstance(node, ast.Assign):
            found.append(node.targets[0].id)
    return found


if __name__ == "__main__":
    unittest.main()
