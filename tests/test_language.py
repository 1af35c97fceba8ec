"""The package keeps to the plain part of the language that it is written in.

This bars more than it must: what the package does not need so far may be let in when it does.
"""

import ast
import builtins
import os
import unittest

FOLDER = os.path.join(os.path.dirname(os.path.dirname(os.path.abspath(__file__))), "falsedays")
LIBRARY = {"heapq": {"heappush", "heappop", "heapify", "heapreplace", "heappushpop"},
           "math": {"gcd", "lcm", "isqrt", "comb", "perm", "factorial"},
           "itertools": {"product", "combinations", "permutations"}}
BUILTINS = set("""len range enumerate zip min max sum abs sorted reversed int str bool list tuple dict set isinstance
ord repr any all divmod ValueError KeyError ZeroDivisionError""".split())
METHODS = set("""append clear copy count endswith extend find get index insert isalnum isalpha isdigit islower isspace
isupper items join keys ljust lower lstrip partition pop remove replace reverse rfind rjust rpartition rsplit rstrip
setdefault split splitlines startswith strip update upper values zfill bit_length add discard""".split())
BARRED = set("""register mro elements open input law version_info with_traceback add_note type typing enum Enum Flag
Generic Protocol ABC namedtuple NamedTuple global eval exec exit gc dir vars globals locals compile""".split())
STATEMENTS = (ast.Global, ast.AsyncFunctionDef, ast.Import, ast.Yield, ast.YieldFrom, ast.Await, ast.GeneratorExp,
              ast.Lambda, ast.With, ast.Match, ast.NamedExpr, ast.Starred, ast.Set, ast.Nonlocal)
PLAIN = (ast.Constant, ast.Tuple, ast.List, ast.Dict, ast.Name, ast.expr_context, ast.BinOp, ast.operator, ast.UnaryOp,
         ast.unaryop)
INTERFACE = {
    "offices": "Office is_day is_true notes board true_days some_true", "readers": "reader stand",
    "tales": "tale least_tale is_tale unseen seeing", "facts": "is_fact holds known",
    "neighbours": "enough is_crossing is_round is_paper least_k crossing round_of paper",
    "alone": "left learning is_learning",
    "proving": "forging is_forging can_prove shown_places settled indiscreet is_indiscreet",
    "keeping": "is_sure served keeps most_kept unseen_days", "colours": "coloured good_colours",
    "claims": "least_lies heights is_heights surely_lying convicting", "chains": "chained same_days",
    "counting": "many_days day_at day_number many_with", "rules": "read_rule", "reading": "read_office read_day",
    "live": "Live", "texts": "office_text day_text", "desk": "Desk",
    "webs": "is_web is_tree exchanges web_false shape_false", "clerks": "led caught", "shop": "Shop",
    "shares": "shares most_proofs least_proofs cheapest_lot", "merging": "merged rule_text"}
CLASSES = {"Office": "__init__ __eq__", "Live": "step so_far wrong sees_now ways_on closed back depth copy trying",
           "Desk": "tell undoable",
           "Shop": "put strike add shuts shuts_not office least back depth copy trying"}


def package_files():
    return sorted(name for name in os.listdir(FOLDER) if name != "__pycache__")


def text_of(name):
    with open(os.path.join(FOLDER, name), encoding="utf-8") as file:
        return file.read()


def tree_of(name):
    return ast.parse(text_of(name))


def imported(tree):
    return {alias.name for node in tree.body if isinstance(node, ast.ImportFrom) for alias in node.names}


class LanguageTest(unittest.TestCase):
    def test_files(self):
        for name in package_files():
            self.assertRegex(name, r"^[a-z0-9_]+\.py$")
            lines = text_of(name).split("\n")
            self.assertLess(len(lines), 400, name)
            for line in lines:
                self.assertLessEqual(len(line), 120, (name, line))
                self.assertTrue(all(" " <= sign <= "~" for sign in line), (name, line))

    def test_interface(self):
        for name, words in INTERFACE.items():
            here = {node.name for node in tree_of(name + ".py").body
                    if isinstance(node, (ast.FunctionDef, ast.ClassDef))}
            self.assertLessEqual(set(words.split()), here)

    def test_methods_stand_in_their_classes(self):
        there = {}
        for name in package_files():
            for node in tree_of(name).body:
                if isinstance(node, ast.ClassDef):
                    there[node.name] = {part.name for part in node.body if isinstance(part, ast.FunctionDef)}
        for name, words in CLASSES.items():
            self.assertLessEqual(set(words.split()), there[name])

    def test_module_level(self):
        for name in package_files():
            for at, node in enumerate(tree_of(name).body):
                if isinstance(node, ast.Expr):
                    self.assertEqual(at, 0, name)
                    self.assertIsInstance(node.value.value, str)
                elif isinstance(node, ast.Assign):
                    self.assertEqual(len(node.targets), 1)
                    # What stands there is made of plain values and of functions that are defined above it.
                    above = {part.name for part in tree_of(name).body[:at] if isinstance(part, ast.FunctionDef)}
                    for part in ast.walk(node.value):
                        self.assertIsInstance(part, PLAIN, name)
                        self.assertTrue(not isinstance(part, ast.Name) or part.id in above, name)
                else:
                    self.assertIsInstance(node, (ast.ImportFrom, ast.FunctionDef, ast.ClassDef), name)

    def test_imports(self):
        edges = {}
        for name in package_files():
            edges[name[:-3]] = []
            for node in tree_of(name).body:
                if isinstance(node, ast.ImportFrom):
                    self.assertEqual(node.level, 0)
                    self.assertTrue(all(alias.asname is None and alias.name != "*" for alias in node.names))
                    names = {alias.name for alias in node.names}
                    if node.module in LIBRARY:
                        self.assertLessEqual(names, LIBRARY[node.module])
                    else:
                        package, file = node.module.split(".")
                        self.assertEqual(package, "falsedays")
                        here = {part.name if hasattr(part, "name") else part.targets[0].id
                                for part in tree_of(file + ".py").body
                                if isinstance(part, (ast.FunctionDef, ast.ClassDef, ast.Assign))}
                        self.assertLessEqual(names, here, name)
                        edges[name[:-3]].append(file)
            used = {node.id for node in ast.walk(tree_of(name)) if isinstance(node, ast.Name)}
            self.assertLessEqual(imported(tree_of(name)), used, name)
        while edges:
            free = [name for name in edges if not any(file in edges for file in edges[name])]
            self.assertTrue(free, "files import each other in a ring")
            for name in free:
                del edges[name]

    def test_functions(self):
        for name in package_files():
            for node in ast.walk(tree_of(name)):
                if isinstance(node, ast.FunctionDef):
                    self.assertLessEqual(node.end_lineno - node.lineno + 1, 40, node.name)
                    self.assertEqual((node.decorator_list, node.args.vararg, node.args.kwarg), ([], None, None))
                    if node.name.startswith("__"):
                        self.assertIn(node.name, ("__init__", "__eq__"))
                self.assertNotIsInstance(node, STATEMENTS, name)
                if isinstance(node, ast.Try):
                    # What stands in a finally puts back what was kept in a name, no more.
                    self.assertEqual((node.handlers, node.orelse), ([], []))
                    for part in node.finalbody:
                        self.assertIsInstance(part, ast.Assign, name)
                        self.assertIsInstance(part.value, ast.Name, name)
                if isinstance(node, ast.Constant):
                    self.assertIn(type(node.value), (int, str, bool, type(None)))
                    self.assertFalse(isinstance(node.value, str) and ("__" in node.value or chr(37) in node.value))
                if isinstance(node, ast.BinOp):
                    self.assertNotIsInstance(node.op, (ast.Div, ast.MatMult), name)
                    if isinstance(node.op, ast.Pow):
                        self.assertTrue(isinstance(node.right, ast.Constant) and 0 <= node.right.value <= 64, name)
                if isinstance(node, ast.Compare) and any(isinstance(op, (ast.Is, ast.IsNot)) for op in node.ops):
                    self.assertIsInstance(node.comparators[0], ast.Constant)

    def test_names(self):
        own = {node.name for name in package_files() for part in tree_of(name).body if isinstance(part, ast.ClassDef)
               for node in part.body if isinstance(node, ast.FunctionDef)}
        for name in package_files():
            tree = tree_of(name)
            taken = imported(tree) | {node.name for node in tree.body if isinstance(node, ast.ClassDef)}
            for node in ast.walk(tree):
                if isinstance(node, ast.Name) and isinstance(node.ctx, ast.Load) and hasattr(builtins, node.id):
                    self.assertIn(node.id, BUILTINS, name)
                stored = {node.id} if isinstance(node, ast.Name) and isinstance(node.ctx, ast.Store) else set()
                if isinstance(node, ast.arg):
                    stored = {node.arg}
                if isinstance(node, (ast.FunctionDef, ast.ClassDef)) and not node.name.startswith("__"):
                    self.assertFalse(hasattr(builtins, node.name), node.name)
                for word in stored:
                    self.assertFalse(hasattr(builtins, word) or word in taken, (name, word))
                    self.assertNotIn(word, BARRED, name)
                if isinstance(node, ast.Attribute):
                    self.assertNotIn(node.attr, BARRED)
                if isinstance(node, ast.Call) and isinstance(node.func, ast.Attribute):
                    self.assertIn(node.func.attr, METHODS | own, name)
                if isinstance(node, ast.Call) and isinstance(node.func, ast.Name) and node.func.id in BUILTINS:
                    self.assertEqual(node.keywords, [], name)


if __name__ == "__main__":
    unittest.main()
