"""The files of the package keep to the rules of LANGUAGE.md that a look at each file can tell."""

import ast
import builtins
import os
import re
import unittest

TOP = os.path.join(os.path.dirname(os.path.abspath(__file__)), os.pardir)
PACKAGE = os.path.join(TOP, "patchlay")
FILES = sorted(name for name in os.listdir(PACKAGE) if name != "__pycache__")

INTERFACE = {
    "errors": ["PatchError", "BadPage", "BadChange", "BadSheet", "BadNumber", "NotFitting", "Clash", "BadRows",
               "TooFew", "NoDeed"],
    "changes": ["done", "fits", "now_at", "turned"],
    "pairs": ["behind", "beside", "merged", "exchanged"],
    "answers": ["Answer", "Both", "Quarrel", "Made", "Laid", "Most"],
    "making": ["made"],
    "sheets": ["around", "laid", "least_around", "most"],
    "texts": ["written", "read"],
    "bench": ["Bench"],
}

METHODS_LISTED = {
    "Made": ["shows"],
    "Most": ["shows"],
    "Bench": ["page", "whence", "times", "do", "lay", "undo", "redo"],
}

# The arguments of each, with their names, as the interface lists them; a default value is written behind "=".
ARGUMENTS = {
    "done": "page change", "fits": "page change", "now_at": "change number", "turned": "change",
    "behind": "one other", "beside": "one other", "merged": "one other", "exchanged": "one other",
    "made": "old new", "around": "page change many=3", "laid": "page sheet level=0", "least_around": "page change",
    "most": "page sheet", "written": "sheet", "read": "text",
    "Both": "other one", "Quarrel": "pairs", "Made": "change heights", "Laid": "spots change lacking",
    "Most": "places marks", "Bench": "page=None", "Bench.page": "", "Bench.whence": "", "Bench.times": "",
    "Bench.do": "change", "Bench.lay": "sheet level=0", "Bench.undo": "", "Bench.redo": "",
    "Made.shows": "old new", "Most.shows": "page sheet",
}

BARRED = re.compile(r"^(_wall|_pe_|_dcw_|_enum_|_cm_|_twin_re_|_lay_|_law_|_stub_|_sre|_cold|_tuplegetter|_outside|"
                    r"_record|_written_out|_member_names|register|mro|elements|open|input|law|version_info)")

BUILTINS = set("""len range enumerate zip min max sum abs sorted reversed int str bool bytes list tuple dict set
    frozenset isinstance ord repr any all divmod pow iter next map super property staticmethod classmethod object
    Exception ValueError TypeError KeyError IndexError LookupError ZeroDivisionError NotImplemented""".split())

METHODS = set("""append clear copy count endswith extend find get index insert isalnum isalpha isdigit islower isspace
    isupper items join keys ljust lower lstrip partition pop remove replace reverse rfind rjust rpartition rsplit rstrip
    setdefault split splitlines startswith strip update upper values zfill bit_length isascii isdecimal isprintable
    removeprefix removesuffix sort""".split())

WORDS = re.compile(r"\b(type|typing|enum|Enum|Flag|Generic|Protocol|ABC|namedtuple|NamedTuple)\b|dataclass|overload")

NODES = (ast.Global, ast.AsyncFunctionDef, ast.AsyncFor, ast.AsyncWith, ast.Await, ast.Div, ast.Import, ast.Set,
         ast.SetComp)


def own_names(tree):
    """The names that a file itself defines, not those that it imports."""
    assigned = [target.id for node in tree.body if isinstance(node, ast.Assign) for target in node.targets]
    return [node.name for node in tree.body if isinstance(node, (ast.FunctionDef, ast.ClassDef))] + assigned


def arguments(node):
    """The arguments of a function, as the interface lists them."""
    defaults = [""] * (len(node.args.args) - len(node.args.defaults)) + [
        "=" + ast.unparse(default) for default in node.args.defaults
    ]
    return " ".join(part.arg + default for part, default in zip(node.args.args, defaults))


class Language(unittest.TestCase):
    def trees(self):
        for name in FILES:
            with open(os.path.join(PACKAGE, name), encoding="utf-8") as file:
                text = file.read()
            yield name, text, ast.parse(text)

    def test_files_lines_and_signs(self):
        for name, text, _ in self.trees():
            self.assertRegex(name, r"^[a-z0-9_]+\.py$")
            self.assertLessEqual(len(text.split("\n")), 399, name)
            for at, line in enumerate(text.split("\n"), 1):
                self.assertLessEqual(len(line), 120, (name, at))
            self.assertTrue(all(sign == "\n" or " " <= sign <= "~" for sign in text), name)

    def test_functions_are_small(self):
        for name, _, tree in self.trees():
            for node in ast.walk(tree):
                if isinstance(node, ast.FunctionDef):
                    self.assertLessEqual(node.end_lineno - node.lineno + 1, 40, (name, node.name))
                    self.assertTrue(ast.get_docstring(node) or node.name == "__init__", (name, node.name))
                    self.assertEqual(node.decorator_list, [], (name, node.name))

    def test_imports(self):
        seen = {}
        defined = {name[:-3]: own_names(tree) for name, _, tree in self.trees()}
        for name, _, tree in self.trees():
            seen[name[:-3]] = []
            for node in ast.walk(tree):
                if isinstance(node, ast.ImportFrom):
                    self.assertRegex(node.module, r"^patchlay\.[a-z]+$")
                    self.assertEqual(node.level, 0)
                    seen[name[:-3]].append(node.module[9:])
                    for alias in node.names:
                        self.assertIsNone(alias.asname)
                        self.assertIn(alias.name, defined[node.module[9:]], name)
        done = []
        while len(done) < len(seen):
            free = [name for name in seen if name not in done and all(part in done for part in seen[name])]
            self.assertTrue(free, "files import each other in a ring")
            done += free

    def test_statements_and_values(self):
        for name, _, tree in self.trees():
            for node in ast.walk(tree):
                self.assertNotIsInstance(node, NODES, name)
                if isinstance(node, ast.Constant):
                    self.assertNotIsInstance(node.value, (float, complex, bytes), name)
                    if isinstance(node.value, str):
                        self.assertNotIn("%", node.value, (name, node.lineno))
            for node in tree.body:
                self.assertIsInstance(node, (ast.ImportFrom, ast.FunctionDef, ast.ClassDef, ast.Assign, ast.Expr))

    def test_names(self):
        for name, _, tree in self.trees():
            bound = {alias.name for node in tree.body if isinstance(node, ast.ImportFrom) for alias in node.names}
            bound |= {node.name for node in tree.body if isinstance(node, ast.ClassDef)}
            for node in ast.walk(tree):
                if isinstance(node, ast.Name) and isinstance(node.ctx, ast.Store):
                    self.assertNotIn(node.id, bound, (name, node.lineno))
                    self.assertFalse(hasattr(builtins, node.id), (name, node.lineno))
                if isinstance(node, ast.arg):
                    self.assertNotIn(node.arg, bound, (name, node.lineno))
                    self.assertFalse(hasattr(builtins, node.arg), (name, node.lineno))
                if isinstance(node, ast.Name) and isinstance(node.ctx, ast.Load) and hasattr(builtins, node.id):
                    self.assertIn(node.id, BUILTINS, (name, node.lineno))
                if isinstance(node, ast.Name) and isinstance(node.ctx, ast.Load):
                    self.assertNotEqual(node.id, "_", (name, node.lineno))

    def test_methods(self):
        own = {node.name for _, _, tree in self.trees() for node in ast.walk(tree) if isinstance(node, ast.FunctionDef)}
        for name, _, tree in self.trees():
            for node in ast.walk(tree):
                if isinstance(node, ast.Call) and isinstance(node.func, ast.Attribute):
                    self.assertIn(node.func.attr, METHODS | own, (name, node.lineno))

    def test_words(self):
        for name, _, tree in self.trees():
            for node in ast.walk(tree):
                if isinstance(node, (ast.FunctionDef, ast.ClassDef, ast.Module)) and ast.get_docstring(node):
                    node.body[0].value.value = ""
            self.assertIsNone(WORDS.search(ast.unparse(tree)), name)

    def test_the_interface_stands_in_the_files_under_which_it_is_listed(self):
        found = {name[:-3]: [node.name for node in tree.body if isinstance(node, (ast.FunctionDef, ast.ClassDef))]
                 for name, _, tree in self.trees()}
        for file, names in INTERFACE.items():
            for name in names:
                self.assertIn(name, found[file])

    def test_the_methods_stand_in_their_classes_and_take_what_the_interface_lists(self):
        told = {}
        for _, _, tree in self.trees():
            for node in tree.body:
                if isinstance(node, ast.FunctionDef):
                    told[node.name] = arguments(node)
                for part in node.body if isinstance(node, ast.ClassDef) else []:
                    if isinstance(part, ast.FunctionDef):
                        own = node.name if part.name == "__init__" else node.name + "." + part.name
                        told[own] = arguments(part).partition(" ")[2]
        for name, methods in METHODS_LISTED.items():
            for method in methods:
                self.assertIn(name + "." + method, told)
        for name, expected in ARGUMENTS.items():
            self.assertEqual(told[name], expected, name)

    def test_no_name_is_barred(self):
        for name, _, tree in self.trees():
            for node in ast.walk(tree):
                for field in ("id", "name", "arg", "attr"):
                    word = getattr(node, field, None) or ""
                    self.assertIsNone(BARRED.match(word), (name, word))

    def test_what_a_loop_goes_over_is_not_changed_in_it(self):
        for name, _, tree in self.trees():
            for loop in ast.walk(tree):
                if isinstance(loop, ast.For):
                    over = {ast.unparse(node) for node in ast.walk(loop.iter) if isinstance(node, ast.Name)}
                    for node in ast.walk(ast.Module(loop.body, [])):
                        if isinstance(node, ast.Call) and isinstance(node.func, ast.Attribute):
                            if node.func.attr in ("append", "pop", "extend", "insert", "remove", "clear"):
                                self.assertNotIn(ast.unparse(node.func.value), over, (name, node.lineno))


if __name__ == "__main__":
    unittest.main()
