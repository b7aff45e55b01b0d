"""The package keeps to its small part of Python, and has the interface that is promised."""

import ast
import builtins
import importlib
import inspect
import re
import unittest
from pathlib import Path

FOLDER = Path(__file__).resolve().parent.parent / "quitsways"
FILES = sorted(FOLDER.glob("*.py"))
BUILTINS = set("len range enumerate zip min max sum abs sorted reversed int str bool bytes list tuple dict set isinstance "
               "ord repr any all divmod ValueError".split())
METHODS = set("append clear copy count endswith extend find get index insert isalnum isalpha isdigit islower isspace "
              "isupper items join keys ljust lower lstrip partition pop remove replace reverse rfind rjust rpartition "
              "rsplit rstrip setdefault split splitlines startswith strip update upper values zfill bit_length".split())
LIBRARY = {"math": {"gcd", "lcm", "isqrt", "comb", "perm", "factorial"},
           "itertools": {"product", "combinations", "permutations"}}
BARRED = set("register mro elements open input law version_info with_traceback add_note attrgetter breakpoint builtins "
             "compile copyright credits delattr dir eval exec exit gc getattr globals hasattr help id importlib license "
             "locals methodcaller os quit setattr super type vars sys object".split())
WORDS = re.compile(r"\b(type|typing|typing_extensions|enum|Enum|IntEnum|StrEnum|Flag|IntFlag|Generic|Protocol|ABC|ABCMeta|"
                   r"namedtuple|NamedTuple|TypedDict|TYPE_CHECKING|abstractmethod)\b|dataclass|overload|contextmanager")
STATEMENTS = (ast.FunctionDef, ast.ClassDef, ast.Return, ast.Assign, ast.AugAssign, ast.For, ast.While, ast.If,
              ast.Raise, ast.Expr, ast.Pass, ast.Break, ast.Continue, ast.ImportFrom, ast.Delete, ast.Try)
BARRED_NODES = (ast.GeneratorExp, ast.Lambda, ast.Set, ast.SetComp, ast.Starred, ast.Yield, ast.YieldFrom, ast.Await,
                ast.NamedExpr, ast.Div, ast.MatMult, ast.JoinedStr, ast.AnnAssign, ast.Global, ast.Nonlocal)
INTERFACE = {
    "evenings": "Evening(owed, due) total(evening) measure(evening) people(evening) scaled(evening, amount) "
                "mirrored(evening) joined(one_evening, other_evening) part(evening, group) is_group(evening, thing) "
                "is_even(evening, thing)",
    "ways": "rests(evening, row) paid(evening, row) led(evening, choose) is_row(evening, thing) is_way(evening, thing)",
    "drawings": "doubles(evening, way) drawing(evening, way) way_for(evening, drawing) pieces(evening, way) "
                "is_drawing(evening, thing) many_ways_for(evening, drawing)",
    "parts": "is_parting(evening, thing) most_parts(evening) parting(evening) partings(evening) even_groups(evening) "
             "least_groups(evening)",
    "ladders": "ladder(evening) is_ladder(evening, bound, thing)",
    "numbers": "fewest(evening) greatest(evening) short_way(evening) long_way(evening) can_have(evening, number) "
               "way_of(evening, number) loaves(one, other)",
    "alike": "unit_of(evening) unlike_ways(evening) is_alike(evening)",
    "settlements": "is_settlement(evening, thing) is_mixture(evening, settlement, thing) settled(evening, way) "
                   "mixture(evening, settlement)",
    "cheapest": "cost(evening, prices, settlement) cheapest(evening, prices) bound(evening, prices) "
                "is_bound(evening, prices, least, thing)",
    "pairs": "can_pass(evening, ower, taker, amount) passing(evening, ower, taker) surely(evening) "
             "way_passing(evening, ower, taker, amount) without(evening, ower, taker) most_by(evening, ower) "
             "least_by(evening, ower)",
    "webs": "is_web(evening, thing) can_settle(evening, web) is_cut(evening, web, thing) is_stuck(evening, web, thing) "
            "is_safe(evening, web) settle(evening, web) cut(evening, web) stuck(evening, web) missing(evening, web) "
            "safer(evening, web) web_numbers(evening, web)",
    "queues": "queue_way(evening, owers, takers) queue_number(evening, owers, takers) queue_least(evening) "
              "queue_most(evening) queue_unit(evening) unlike_queues(evening) queues_alike(evening)",
    "sittings": "Sitting(evening)",
    "ledgers": "Ledger(names)",
    "counting": "many_ways(evening) way_number(evening, way) ways_by_number(evening) all_ways(evening) drawings(evening) "
                "way_at(evening, number)",
    "draws": "shares(evening) mean(evening) likely(evening, ower, taker)",
    "games": "game(evening) reply(evening, row, ower, wish)",
    "payers": "tried(evening, payer) worst(payer, evenings) rule_way(evening, rule)",
    "texts": "evening_text(evening) row_text(row)",
    "reading": "read_evening(text) read_row(evening, text)",
    "desk": "Desk()",
}
METHODS_OF = {
    "Sitting": "pay(ower, taker) so_far() left() is_over() can_pay() ends() toward(number) back() depth() copy() "
               "trying(action)",
    "Ledger": "lend(one, other, amount) bet(winner, losers, amount) debts() nets() evening() cancel(names) rings() back() "
              "depth() copy() trying(action)",
    "Desk": "tell(line) undoable()",
}


def trees():
    """Each file's name, with its tree."""
    return [(path.stem, ast.parse(path.read_text())) for path in FILES]


def defined(tree):
    """The names that a file binds itself."""
    names = [each.name for each in tree.body if isinstance(each, (ast.FunctionDef, ast.ClassDef))]
    return names + [each.targets[0].id for each in tree.body if isinstance(each, ast.Assign)]


def imported(tree):
    """The names that a file imports."""
    return [each.name for node in tree.body if isinstance(node, ast.ImportFrom) for each in node.names]


def bound(tree):
    """The names of all variables and parameters of a tree."""
    names = [node.id for node in ast.walk(tree) if isinstance(node, ast.Name) and isinstance(node.ctx, ast.Store)]
    return names + [node.arg for node in ast.walk(tree) if isinstance(node, ast.arg)]


class TestFiles(unittest.TestCase):
    def test_only_plain_files(self):
        for path in FOLDER.iterdir():
            if path.name != "__pycache__":
                self.assertTrue(path.is_file() and re.fullmatch(r"[a-z_0-9]+\.py", path.name), path.name)
                self.assertFalse(path.stem != "__init__" and hasattr(builtins, path.stem), path.name)

    def test_sizes_and_signs(self):
        for path in FILES:
            lines = path.read_text().split("\n")
            self.assertLessEqual(len(lines) - 1, 399, path.name)
            for number, line in enumerate(lines, 1):
                self.assertTrue(len(line) <= 120 and re.fullmatch(r"[ -~]*", line), (path.name, number))
        for name, tree in trees():
            for node in ast.walk(tree):
                if isinstance(node, ast.FunctionDef):
                    self.assertLessEqual(node.end_lineno - node.lineno + 1, 40, (name, node.name))


class TestImports(unittest.TestCase):
    def test_from_the_file_that_defines(self):
        known = {f"quitsways.{name}": set(defined(tree)) for name, tree in trees()}
        known.update(LIBRARY)
        for name, tree in trees():
            for node in ast.walk(tree):
                self.assertNotIsInstance(node, ast.Import)
                if isinstance(node, ast.ImportFrom):
                    self.assertIn(node, tree.body)
                    for each in node.names:
                        self.assertIsNone(each.asname)
                        self.assertIn(each.name, known[node.module], name)

    def test_no_rings(self):
        left = {name: {node.module[10:] for node in tree.body if isinstance(node, ast.ImportFrom)
                       and node.module not in LIBRARY} for name, tree in trees()}
        while left:
            free = [name for name, needed in left.items() if not needed & set(left)]
            self.assertTrue(free, left)
            left = {name: needed for name, needed in left.items() if name not in free}

    def test_nothing_is_imported_for_nothing(self):
        for name, tree in trees():
            used = {node.id for node in ast.walk(tree) if isinstance(node, ast.Name)}
            self.assertEqual(set(imported(tree)) - used, set(), name)


class TestNames(unittest.TestCase):
    def test_bound_once(self):
        for name, tree in trees():
            names = defined(tree) + imported(tree)
            self.assertEqual(len(names), len(set(names)), name)

    def test_no_name_of_a_builtin(self):
        for name, tree in trees():
            for each in bound(tree) + defined(tree) + imported(tree):
                self.assertFalse(hasattr(builtins, each), (name, each))
                self.assertNotIn(each, BARRED, name)
                self.assertTrue(re.fullmatch(r"_?[A-Za-z][A-Za-z0-9_]*|_", each), (name, each))

    def test_no_local_name_of_an_import_or_a_class(self):
        for name, tree in trees():
            taken = set(imported(tree)) | {node.name for node in tree.body if isinstance(node, ast.ClassDef)}
            for function in ast.walk(tree):
                if isinstance(function, ast.FunctionDef):
                    self.assertEqual(set(bound(function)) & taken, set(), (name, function.name))

    def test_only_known_names_are_read(self):
        for name, tree in trees():
            known = set(defined(tree) + imported(tree)) | BUILTINS | set(bound(tree))
            for node in ast.walk(tree):
                if isinstance(node, ast.Name):
                    self.assertIn(node.id, known, (name, node.lineno))
                    self.assertFalse(node.id == "_" and isinstance(node.ctx, ast.Load), (name, node.lineno))

    def test_methods(self):
        own = {each.name for _, tree in trees() for node in ast.walk(tree) if isinstance(node, ast.ClassDef)
               for each in node.body if isinstance(each, ast.FunctionDef)}
        self.assertEqual({each for each in own if each.startswith("__")}, {"__init__", "__eq__"})
        self.assertEqual({each for each in own if hasattr((), each) or hasattr({}, each) or hasattr("", each)},
                         {"__init__", "__eq__", "copy"})
        stored = {node.attr for _, tree in trees() for node in ast.walk(tree)
                  if isinstance(node, ast.Attribute) and isinstance(node.ctx, ast.Store)}
        self.assertEqual(stored & own, set())
        for name, tree in trees():
            called = {node.func.attr for node in ast.walk(tree)
                      if isinstance(node, ast.Call) and isinstance(node.func, ast.Attribute)}
            self.assertEqual(called - own - METHODS, set(), name)
            for node in ast.walk(tree):
                if isinstance(node, ast.Attribute) and node.attr not in called:
                    self.assertIn(node.attr, stored, (name, node.lineno))


class TestCode(unittest.TestCase):
    def test_statements_and_expressions(self):
        for name, tree in trees():
            for node in ast.walk(tree):
                where = (name, getattr(node, "lineno", 0))
                self.assertNotIsInstance(node, BARRED_NODES, where)
                if isinstance(node, ast.stmt):
                    self.assertIsInstance(node, STATEMENTS, where)
                if isinstance(node, ast.Constant):
                    self.assertIn(type(node.value), (int, str, bool, type(None)), where)
                if isinstance(node, ast.Compare):
                    for sign, side in zip(node.ops, node.comparators):
                        if isinstance(sign, (ast.Is, ast.IsNot)):
                            self.assertIsInstance(side, ast.Constant, where)
                if isinstance(node, ast.Try):
                    self.assertFalse(node.handlers or node.orelse, where)
                    for each in node.finalbody:
                        self.assertIsInstance(each, ast.Assign, where)
                        self.assertIsInstance(each.value, ast.Name, where)
                if isinstance(node, ast.BinOp) and isinstance(node.op, ast.Pow):
                    self.assertTrue(isinstance(node.right, ast.Constant) and 0 <= node.right.value <= 64, where)

    def test_functions(self):
        for name, tree in trees():
            for node in ast.walk(tree):
                if isinstance(node, ast.FunctionDef):
                    told = node.args
                    self.assertFalse(node.decorator_list or told.defaults or told.kwonlyargs or told.vararg
                                     or told.kwarg or told.posonlyargs, (name, node.name))
                if isinstance(node, ast.ClassDef):
                    self.assertFalse(node.decorator_list or node.keywords, (name, node.name))
                if isinstance(node, ast.Call):
                    self.assertFalse(node.keywords, (name, node.lineno))

    def test_module_level(self):
        for name, tree in trees():
            for node in tree.body:
                self.assertIsInstance(node, (ast.ImportFrom, ast.FunctionDef, ast.ClassDef, ast.Assign, ast.Expr), name)
                if isinstance(node, ast.Expr):
                    self.assertIsInstance(node.value, ast.Constant)
                if isinstance(node, ast.Assign):
                    self.assertIsInstance(node.targets[0], ast.Name)
                    items = node.value.keys + node.value.values if isinstance(node.value, ast.Dict) else [node.value]
                    above = {each.name for each in tree.body[:tree.body.index(node)] if isinstance(each, ast.FunctionDef)}
                    for item in items:
                        for each in ast.walk(item):
                            self.assertNotIsInstance(each, (ast.Call, ast.List, ast.Dict), name)
                            self.assertTrue(not isinstance(each, ast.Name) or each.id in above, name)

    def test_sets_are_only_sorted(self):
        for name, tree in trees():
            inside = {id(node.args[0]) for node in ast.walk(tree) if isinstance(node, ast.Call)
                      and isinstance(node.func, ast.Name) and node.func.id in ("sorted", "len")}
            for node in ast.walk(tree):
                if isinstance(node, ast.Call) and isinstance(node.func, ast.Name) and node.func.id == "set":
                    self.assertIn(id(node), inside, (name, node.lineno))

    def test_words_and_strings(self):
        for path in FILES:
            tree = ast.parse(path.read_text())
            for node in ast.walk(tree):
                if isinstance(node, ast.Constant) and isinstance(node.value, str):
                    self.assertNotRegex(node.value, r"[%\\]", path.name)
                if isinstance(node, (ast.Module, ast.FunctionDef, ast.ClassDef)) and ast.get_docstring(node):
                    node.body[0].value.value = ""
            self.assertNotRegex(ast.unparse(tree), WORDS, path.name)
            self.assertNotRegex(path.read_text(), r"_wall|_WallAttr", path.name)

    def test_all_is_told(self):
        for name, tree in trees():
            self.assertTrue(ast.get_docstring(tree), name)
            for node in tree.body:
                if isinstance(node, (ast.FunctionDef, ast.ClassDef)):
                    self.assertTrue(ast.get_docstring(node), (name, node.name))


class TestInterface(unittest.TestCase):
    def test_names_and_arguments(self):
        for module, listed in INTERFACE.items():
            loaded = importlib.import_module(f"quitsways.{module}")
            for name, arguments in re.findall(r"(\w+)\(([^)]*)\)", listed):
                thing = getattr(loaded, name)
                self.assertEqual(thing.__module__, f"quitsways.{module}")
                wanted = [each for each in arguments.split(", ") if each]
                self.assertEqual(list(inspect.signature(thing).parameters), wanted, name)
                if name in METHODS_OF:
                    self.methods(thing, METHODS_OF[name])

    def methods(self, thing, listed):
        """A class defines all of these methods itself, with these arguments."""
        for name, arguments in re.findall(r"(\w+)\(([^)]*)\)", listed):
            wanted = ["self"] + [each for each in arguments.split(", ") if each]
            self.assertEqual(list(inspect.signature(vars(thing)[name]).parameters), wanted, name)


if __name__ == "__main__":
    unittest.main()
