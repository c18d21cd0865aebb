"""The form of the package: its files, sizes, words, and where the interface is defined."""

import ast
import os
import re
import unittest

ROOT = os.path.join(os.path.dirname(os.path.dirname(os.path.abspath(__file__))), "narrowplay")

INTERFACE = {
    "errors": ["PlayError", "BadPoly", "BadWord", "BadScript", "BadProgram", "BadCode", "BadMachine", "BadNumber", "BadText",
               "BadPicks", "BadPlayer", "BadShape", "BadStanding", "BadFormula", "BadFilling", "BadTies", "BadStep",
               "NotOfOne"],
    "polys": ["is_poly", "is_word", "value_at", "sum_of", "product_of", "poly_text", "poly_read"],
    "scripts": ["is_name", "is_test", "is_command", "is_script"],
    "texts": ["written", "read"],
    "faults": ["judge_script", "script_holds", "is_program"],
    "plays": ["run", "state_after"],
    "plans": ["winner", "many_plays", "make_plan", "plan_holds", "wins_from"],
    "bounds": ["clock", "choices", "cells"],
    "code": ["is_code", "is_accepted", "judge_code", "code_holds"],
    "codebounds": ["code_clock", "code_choices", "code_cells", "code_depth"],
    "runs": ["run_code", "cells_held"],
    "narrow": ["narrow", "code_plan", "code_plan_holds", "code_plays"],
    "compiler": ["compiled", "code_map", "tape_number", "index_number"],
    "machines": ["is_machine", "depth", "first_standing", "accepts", "is_standing", "next_standing", "picture", "standing_of"],
    "halves": ["halving_program", "many_choices", "claim_after", "asked_after", "game_won", "winning_player", "honest_pick"],
    "formulas": ["is_formula", "matrix_value", "value_after", "formula_value", "denial", "formula_program", "is_at_most"],
    "shelf": ["takeaway_winner", "ties_winner", "domino_winner", "takeaway_program", "ties_program", "domino_program"],
    "chain": ["chain"],
    "simplify": ["steps_from", "is_step", "after_step", "simplified", "exchanged"],
    "single": ["is_of_one", "winning_picks", "picks_hold"],
}

BUILTINS = set((
    "len range enumerate zip min max sum abs sorted reversed int str bool bytes list tuple dict set frozenset isinstance ord "
    "repr any all divmod pow map iter next getattr hasattr setattr super Exception ValueError TypeError KeyError IndexError "
    "LookupError ZeroDivisionError ArithmeticError OverflowError RuntimeError NotImplementedError AttributeError StopIteration "
    "NotImplemented property staticmethod classmethod").split())

NEVER_NAMES = set(
    "register mro elements open input law version_info with_traceback add_note".split())
NEVER_WORDS = set((
    "type typing typing_extensions enum Enum IntEnum StrEnum Flag IntFlag Generic Protocol ABC ABCMeta namedtuple NamedTuple "
    "TypedDict TYPE_CHECKING abstractmethod dataclass overload contextmanager _wall _WallAttr").split())
METHODS = set((
    "append clear copy count endswith extend find get index insert isalnum isalpha isdigit islower isspace isupper items join "
    "keys ljust lower lstrip partition pop remove replace reverse rfind rjust rpartition rsplit rstrip setdefault split "
    "splitlines startswith strip update upper values zfill bit_length").split())

NEVER_ATTRIBUTES = set((
    "items keys values pop update append clear extend insert remove reverse setdefault sort args encode decode hex fromhex format "
    "format_map mro as_integer_ratio bit_count conjugate from_bytes is_integer to_bytes").split())


def files():
    """Return the files of the package, by name, with their texts."""
    found = {}
    for folder, _, names in os.walk(ROOT):
        for name in sorted(names):
            if not folder.endswith("__pycache__"):
                with open(os.path.join(folder, name), encoding="utf-8") as opened:
                    found[os.path.relpath(os.path.join(folder, name), ROOT)] = opened.read()
    return found


class Form(unittest.TestCase):

    def setUp(self):
        self.files = files()
        self.trees = {name: ast.parse(text) for name, text in self.files.items()}

    def nodes(self, *sorts):
        return [(name, node) for name, tree in self.trees.items() for node in ast.walk(tree) if isinstance(node, sorts)]

    def test_files(self):
        self.assertIn("__init__.py", self.files)
        for name, text in self.files.items():
            self.assertRegex(name, r"\A(__init__|[a-z][a-z0-9_]*)\.py\Z")
            self.assertTrue(all(sign == "\n" or " " <= sign <= "~" for sign in text), name)
            self.assertLessEqual(text.count("\n"), 399, name)
            for line in text.split("\n"):
                self.assertLessEqual(len(line), 120, (name, line))

    def test_interface_is_defined_where_it_is_listed(self):
        for name, wanted in INTERFACE.items():
            defined = [node.name for node in self.trees[name + ".py"].body
                       if isinstance(node, (ast.FunctionDef, ast.ClassDef))]
            for word in wanted:
                self.assertEqual(defined.count(word), 1, (name, word))

    def test_size_of_functions(self):
        for name, node in self.nodes(ast.FunctionDef):
            self.assertLessEqual(node.end_lineno - node.lineno + 1, 40, (name, node.name))
            self.assertEqual(node.decorator_list, [], (name, node.name))

    def test_module_level(self):
        allowed = (ast.ImportFrom, ast.FunctionDef, ast.ClassDef, ast.Assign)
        for name, tree in self.trees.items():
            self.assertIsNotNone(ast.get_docstring(tree), name)
            for node in tree.body[1:]:
                self.assertIsInstance(node, allowed, name)
                if isinstance(node, ast.Assign):
                    self.assertFalse([part for part in ast.walk(node.value) if isinstance(part, (ast.Call, ast.Set))], name)

    def test_imports(self):
        self.assertEqual(self.nodes(ast.Import), [])
        for name, node in self.nodes(ast.ImportFrom):
            self.assertTrue(node.module.startswith("narrowplay."), (name, node.module))
            body = self.trees[node.module.partition(".")[2] + ".py"].body
            defined = {part.name for part in body if isinstance(part, (ast.FunctionDef, ast.ClassDef))}
            defined |= {part.targets[0].id for part in body if isinstance(part, ast.Assign)}
            for alias in node.names:
                self.assertIn(alias.name, defined, (name, node.module))
                self.assertIsNone(alias.asname)

    def test_docstrings(self):
        for name, node in self.nodes(ast.FunctionDef, ast.ClassDef):
            if node.name != "__init__":
                self.assertIsNotNone(ast.get_docstring(node), (name, node.name))

    def test_words(self):
        for name, text in self.files.items():
            self.assertFalse(NEVER_WORDS & set(re.findall(r"[A-Za-z_][A-Za-z0-9_]*", text)), name)
        for name, node in self.nodes(ast.Constant):
            if isinstance(node.value, str):
                self.assertFalse("%" in node.value or node.value.endswith(("._", ".__")), (name, node.value))
            self.assertNotIsInstance(node.value, (float, complex))

    def test_names(self):
        own = {node.name for _, node in self.nodes(ast.FunctionDef, ast.ClassDef)}
        known = set(vars(__builtins__) if not isinstance(__builtins__, dict) else __builtins__)
        for name, node in self.nodes(ast.Name):
            self.assertNotIn(node.id, NEVER_NAMES, name)
            if node.id in known:
                self.assertIn(node.id, BUILTINS, name)
                self.assertIsInstance(node.ctx, ast.Load, (name, node.id))
        for name, node in self.nodes(ast.arg):
            self.assertNotIn(node.arg, NEVER_NAMES | known, name)
        self.assertFalse(own & (NEVER_NAMES | known))
        for name, node in self.nodes(ast.Call):
            if isinstance(node.func, ast.Attribute):
                self.assertIn(node.func.attr, METHODS | own | {"__init__"}, name)

    def test_no_name_stands_for_two_things(self):
        for name, tree in self.trees.items():
            bound = [alias.name for node in tree.body if isinstance(node, ast.ImportFrom) for alias in node.names]
            bound += [node.name for node in tree.body if isinstance(node, (ast.FunctionDef, ast.ClassDef))]
            self.assertEqual(len(bound), len(set(bound)), name)
            inner = {node.id for node in ast.walk(tree) if isinstance(node, ast.Name) and isinstance(node.ctx, ast.Store)}
            inner |= {node.arg for node in ast.walk(tree) if isinstance(node, ast.arg)}
            self.assertFalse(inner & set(bound), name)

    def test_attributes_and_methods(self):
        for name, node in self.nodes(ast.Attribute):
            if isinstance(node.ctx, ast.Store):
                self.assertNotIn(node.attr, NEVER_ATTRIBUTES, name)
                self.assertIsInstance(node.value, ast.Name, (name, node.attr))
        native = set(dir(str) + dir(int) + dir(list) + dir(dict) + dir(set) + dir(bytes) + dir(tuple))
        for name, node in self.nodes(ast.ClassDef):
            methods = {part.name for part in node.body if isinstance(part, ast.FunctionDef)}
            stored = {part.attr for part in ast.walk(node) if isinstance(part, ast.Attribute) and isinstance(part.ctx, ast.Store)}
            self.assertFalse(methods & stored, (name, node.name))
            self.assertFalse((methods - {"__init__"}) & native, (name, node.name))
            self.assertFalse({word for word in methods if word.startswith("__")} - {"__init__"}, (name, node.name))

    def test_captured_names(self):
        for name, function in self.nodes(ast.FunctionDef):
            captured = {node.name for node in ast.walk(function) if isinstance(node, ast.MatchAs)} - {None}
            bound = {node.id for node in ast.walk(function) if isinstance(node, ast.Name) and isinstance(node.ctx, ast.Store)}
            bound |= {node.arg for node in ast.walk(function) if isinstance(node, ast.arg)}
            self.assertFalse(captured & bound, (name, function.name))
            for match in [node for node in ast.walk(function) if isinstance(node, ast.Match)]:
                inside = {node for case in match.cases for node in ast.walk(case)}
                for node in ast.walk(function):
                    if isinstance(node, ast.Name) and node.id in captured:
                        self.assertIn(node, inside, (name, function.name, node.id))

    def test_statements_and_signs(self):
        barred = (ast.Global, ast.AsyncFunctionDef, ast.AsyncFor, ast.AsyncWith, ast.Await, ast.Div, ast.MatMult, ast.Pow)
        self.assertEqual(self.nodes(*barred), [])
        for name, node in self.nodes(ast.Compare):
            for sign, right in zip(node.ops, node.comparators):
                if isinstance(sign, (ast.Is, ast.IsNot)):
                    self.assertTrue(isinstance(right, ast.Constant) and right.value in (None, True, False), name)
