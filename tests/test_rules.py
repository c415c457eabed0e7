"""The rules of the language that can be seen in the files of the package, and the interface."""

import ast
import builtins
import inspect
import unittest
from importlib import import_module
from pathlib import Path

PACKAGE = Path(__file__).resolve().parent.parent / "everycycle"
FILES = sorted(PACKAGE.glob("*.py"))
TREES = {path.stem: ast.parse(path.read_text(encoding="utf-8")) for path in FILES}

INTERFACE = {
    "errors": {
        "BadLine": "line, column", "BadNumber": "what, number", "BadRow": "row", "BadName": "name",
        "BadWidth": "name, wanted, told", "NoName": "name", "TakenName": "name", "Unlike": "what", "Missing": "name",
        "NotKept": "name, rows",
    },
    "texts": {"design_of": "text", "design_text": "design"},
    "designs": {"check": "design", "width_of": "design, module, expression", "names_in": "expression"},
    "cycles": {
        "word_of": "expression, names", "reset_of": "design, module", "is_state": "design, module, value",
        "are_inputs": "design, module, value", "cycle": "design, module, state, inputs", "word_at": "signals, name",
        "run": "design, rows", "run_from": "design, state, rows", "state_behind": "design, state, rows",
    },
    "flats": {"flat": "design", "flat_state": "design, state", "deep_state": "design, row"},
    "graphs": {
        "Graph": "leaves, gates", "node_values": "graph, bits", "literal_value": "found, literal",
        "sure_values": "graph, bits", "Builder": "leaves", "or_of": "builder, one, other",
        "xor_of": "builder, one, other", "choice_of": "builder, c, one, other",
        "put_into": "builder, graph, leaves, literals", "plain": "graph, literals", "cone": "graph, literals",
        "with_known": "graph, literals, known",
    },
    "bits": {
        "number_word": "width, number", "word_number": "bits", "number_bits": "width, number",
        "full_sum": "builder, a, b, c", "summed": "builder, one, other, carry", "difference": "builder, one, other",
        "product": "builder, one, other", "is_below": "builder, one, other", "is_equal": "builder, one, other",
        "chosen": "builder, c, one, other", "expression_word": "builder, expression, known",
        "machine_of": "design, wish",
    },
    "clauses": {
        "Machine": "graph, inputs, resets, nexts, wish", "played": "machine, rows", "breaks": "machine, rows",
        "satisfies": "assignment, clause", "clause_of": "literals", "clauses_of": "graph", "now": "machine, clause",
        "behind": "machine, clause", "unrolled": "machine, cycles, free", "Unrolled": "graph, states, wishes",
    },
    "lines": {
        "resolvent": "one, other, variable", "line_clauses": "clauses, lines",
        "is_refutation": "clauses, lines, assumed=()", "roots_of": "clauses, lines", "drawn": "clauses, lines",
    },
    "solver": {
        "is_trail": "many, row, trail", "trail_rank": "many, trail", "units": "many, row, trail",
        "learnt": "many, row, trail, n", "gone_back": "trail, level, literal, n", "Found": "assignment",
        "Barred": "lines", "solve": "many, clauses, assumed=()", "is_solved": "many, clauses, assumed, told",
    },
    "bounded": {
        "Broken": "rows", "is_break": "machine, rows", "one_cycle": "machine, state, inputs",
        "break_lot": "machine, many", "first_break": "machine, most", "FirstBreak": "rows, papers", "NoBreak": "papers",
        "is_first_break": "machine, most, told", "cut_out": "machine, rows",
    },
    "steps": {
        "path_of": "machine, state, rows", "step_lot": "machine, k", "by_steps": "machine, k", "KeptBySteps": "base, step",
        "OpenSteps": "state, rows", "is_by_steps": "machine, k, told",
    },
    "judge": {
        "given_of": "machine, clauses", "against": "machine, clause", "against_wish": "machine", "Kept": "clauses, papers",
        "is_kept": "machine, told", "lessened": "machine, kept",
    },
    "frames": {
        "holds_at": "clause, state", "in_set": "machine, clauses, state", "not_state": "state", "break_in": "machine, clauses",
        "way_past": "machine, clauses, clause", "shut": "machine, clauses, state", "Way": "state, inputs", "Shut": "clause",
        "Frames": "machine, levels, stack", "begun": "machine", "frame": "frames, i", "stands": "frames",
        "stepped": "frames", "measure": "frames", "settle": "machine",
    },
    "backs": {
        "first_fall": "design, w, rows", "words_of": "design, rows", "bits_of": "design, rows", "run_text": "design, rows",
        "rows_of": "design, text", "changes": "design, rows, names", "filling": "rows, mask, others",
        "open_bits": "design, w, rows", "Open": "mask, lines", "clauses_for": "design, w, rows, mask",
        "is_enough": "design, w, rows, mask, lines",
    },
    "pairs": {
        "settled": "design, name", "Fallen": "rows", "is_settled": "design, name, told", "pair_of": "one, other",
        "alike": "one, other",
    },
    "projects": {"Project": "text=''", "is_project_right": "project"},
}
METHODS_TOLD = {("graphs", "Graph"): {"__eq__": "self, other"}, ("clauses", "Machine"): {"__eq__": "self, other"},
                ("graphs", "Builder"): {"graph": "self", "and_of": "self, one, other"},
                ("projects", "Project"): {
                    "put": "self, text", "drop": "self, name", "wish": "self, name", "release": "self, name", "text": "self",
                    "names": "self", "wishes": "self", "paper": "self, name", "run": "self, inputs",
                    "may_be": "self, name, value", "undo": "self", "redo": "self", "attempt": "self, action",
                    "trial": "self, action"}}
LIBRARY = {"heapq": ("heapify", "heappop", "heappush")}
# What comes back to itself, as deep as rows stand in rows, or modules in modules.
BACK_TO_THEMSELVES = {"tuples_of", "state_with"}
NO_ATTRIBUTES = set("""
items keys values pop update append clear extend insert remove reverse setdefault sort args encode decode hex fromhex
format format_map mro register elements open input law version_info with_traceback add_note
""".split())
BUILTINS = {
    "len", "range", "enumerate", "zip", "min", "max", "sum", "abs", "sorted", "reversed", "int", "str", "bool", "list",
    "tuple", "dict", "set", "isinstance", "ord", "repr", "any", "all", "divmod", "ValueError",
}
METHODS = set("""
append clear copy count endswith extend find get index insert isalnum isalpha isdigit islower isspace isupper items join
keys ljust lower lstrip partition pop remove replace reverse rfind rjust rpartition rsplit rstrip setdefault split
splitlines startswith strip update upper values zfill bit_length
""".split())
NO_NAMES = set("""
register mro elements open input law version_info with_traceback add_note attrgetter breakpoint compile copyright credits
delattr dir eval exec exit gc getattr globals hasattr help id importlib license locals methodcaller os quit setattr super
type vars sys
""".split())
STATEMENTS = (
    ast.Assign, ast.AugAssign, ast.If, ast.While, ast.For, ast.Return, ast.Break, ast.Continue, ast.Pass, ast.Raise,
    ast.Assert, ast.Delete, ast.Expr, ast.FunctionDef, ast.ClassDef, ast.ImportFrom, ast.Try,
)


def nodes(kind):
    """All nodes of a kind, with the names of their files."""
    return [(name, node) for name, tree in TREES.items() for node in ast.walk(tree) if isinstance(node, kind)]


def bound_names(tree):
    """What a file binds at its module level."""
    found = []
    for node in tree.body:
        if isinstance(node, (ast.FunctionDef, ast.ClassDef)):
            found.append(node.name)
        elif isinstance(node, ast.Assign):
            found.extend(target.id for target in node.targets)
        elif isinstance(node, ast.ImportFrom):
            found.extend(alias.name for alias in node.names)
    return found


def has_ring(leads):
    """Whether some name leads back to itself."""
    left = dict(leads)
    while left:
        free = [name for name in left if not [other for other in left[name] if other in left]]
        if not free:
            return True
        for name in free:
            del left[name]
    return False


def is_plain(node):
    """Whether it is a name, an attribute off a name, a literal, or a list, tuple or dict of these."""
    if isinstance(node, ast.Attribute):
        return isinstance(node.value, ast.Name)
    if isinstance(node, (ast.List, ast.Tuple)):
        return all([is_plain(part) for part in node.elts])
    if isinstance(node, ast.Dict):
        return all([is_plain(part) for part in (*node.keys, *node.values)])
    return isinstance(node, (ast.Name, ast.Constant))


def has_plain_stars(call):
    """Whether all is plain behind the stars of a call and beside its `**`, behind which a name stands or an attribute."""
    doubles = [part.value for part in call.keywords if part.arg is None]
    held = bool(doubles)
    for part in (*call.args, *call.keywords):
        # What a star goes over stands behind it, and so do the arguments that come after it: L7 may mean either.
        held = held or isinstance(part, ast.Starred)
        if held and not is_plain(part.value if isinstance(part, (ast.Starred, ast.keyword)) else part):
            return False
    return all([isinstance(part, (ast.Name, ast.Attribute)) for part in doubles])


class Files(unittest.TestCase):
    def test_the_folder_holds_nothing_else(self):
        for path in PACKAGE.iterdir():
            self.assertTrue(path in FILES or path.name == "__pycache__", path)
        for path in FILES:
            self.assertRegex(path.name, r"\A([a-z][a-z0-9_]*|__init__)\.py\Z")

    def test_sizes_and_characters(self):
        for path in FILES:
            text = path.read_text(encoding="utf-8")
            self.assertLessEqual(text.count("\n"), 399, path)
            self.assertTrue(all(sign == "\n" or " " <= sign <= "~" for sign in text), path)
            for line in text.split("\n"):
                self.assertLessEqual(len(line), 120, path)
                self.assertEqual(line, line.rstrip(), path)
        for name, node in nodes(ast.FunctionDef):
            self.assertLessEqual(node.end_lineno - node.lineno + 1, 40, (name, node.name))

    def test_imports(self):
        for name, node in nodes((ast.Import, ast.ImportFrom)):
            self.assertIsInstance(node, ast.ImportFrom, name)
            self.assertEqual(node.level, 0)
            if node.module in LIBRARY:
                self.hold_library(name, node)
                continue
            package, _, stem = node.module.partition(".")
            self.assertEqual(package, "everycycle", name)
            defined = [part.name for part in TREES[stem].body if isinstance(part, (ast.FunctionDef, ast.ClassDef))]
            defined += [target.id for part in TREES[stem].body if isinstance(part, ast.Assign) for target in part.targets]
            used = [part.id for part in ast.walk(TREES[name]) if isinstance(part, ast.Name)]
            for alias in node.names:
                self.assertIsNone(alias.asname)
                self.assertIn(alias.name, defined, (name, alias.name))
                self.assertIn(alias.name, used, (name, alias.name))
        leads = {name: [node.module.partition(".")[2] for stem, node in nodes(ast.ImportFrom) if stem == name] for name in TREES}
        self.assertFalse(has_ring(leads))

    def hold_library(self, name, node):
        """What comes from the library is only called, by its bare name, by position, and nothing else has its name."""
        for alias in node.names:
            self.assertIn(alias.name, LIBRARY[node.module])
            self.assertIsNone(alias.asname)
            asked = [part for part in ast.walk(TREES[name]) if isinstance(part, ast.Name) and part.id == alias.name]
            calls = [part for part in ast.walk(TREES[name]) if isinstance(part, ast.Call) and part.func in asked]
            self.assertTrue(asked)
            self.assertEqual(len(asked), len(calls))
            self.assertFalse([part for part in calls if part.keywords])

    def test_module_level(self):
        for name, tree in TREES.items():
            self.assertIsInstance(tree.body[0], ast.Expr, name)
            for node in tree.body[1:]:
                self.assertIsInstance(node, (ast.FunctionDef, ast.ClassDef, ast.Assign, ast.ImportFrom), name)
            bound = bound_names(tree)
            self.assertEqual(len(bound), len(set(bound)), name)


class Code(unittest.TestCase):
    def test_statements(self):
        for name, node in nodes(ast.stmt):
            self.assertIsInstance(node, STATEMENTS, (name, node.lineno))
        for name, node in nodes(ast.Try):
            # Only what puts things back in the end: names and attributes that take names.
            self.assertFalse(node.handlers or node.orelse, (name, node.lineno))
            for row in node.finalbody:
                self.assertIsInstance(row, ast.Assign, (name, node.lineno))
                for part in (*row.targets, row.value):
                    for inner in part.elts if isinstance(part, ast.Tuple) else [part]:
                        self.assertIsInstance(inner, (ast.Name, ast.Attribute), (name, node.lineno))
        for name, node in nodes((ast.SetComp, ast.GeneratorExp, ast.Lambda, ast.Yield, ast.NamedExpr, ast.Global)):
            self.fail((name, node.lineno))

    def test_each_function_and_class_is_told(self):
        for name, node in nodes((ast.FunctionDef, ast.ClassDef)):
            if node.name not in ("__init__", "__eq__"):
                self.assertIsNotNone(ast.get_docstring(node), (name, node.name))
            self.assertEqual(node.decorator_list, [])

    def test_names(self):
        shadowed = set(dir(builtins)) - {"__doc__"}
        for name, tree in TREES.items():
            taken = [alias.name for node in tree.body if isinstance(node, ast.ImportFrom) for alias in node.names]
            taken += [node.name for node in tree.body if isinstance(node, ast.ClassDef)]
            stored = [node.id for node in ast.walk(tree) if isinstance(node, ast.Name) and isinstance(node.ctx, ast.Store)]
            stored += [node.arg for node in ast.walk(tree) if isinstance(node, ast.arg)]
            for word in stored:
                self.assertNotIn(word, taken, name)
            stored += [node.name for node in ast.walk(tree) if isinstance(node, (ast.FunctionDef, ast.ClassDef))]
            for word in stored:
                self.assertNotIn(word, shadowed, name)
                self.assertNotIn(word, NO_NAMES, name)
                self.assertTrue(word in ("_", "__init__", "__eq__") or word[0] != "_", (name, word))

    def test_builtins_and_methods(self):
        methods = {part.name for _, node in nodes(ast.ClassDef) for part in node.body if isinstance(part, ast.FunctionDef)}
        kept = {node.attr for _, node in nodes(ast.Attribute) if isinstance(node.ctx, ast.Store)}
        for name, node in nodes(ast.Name):
            if node.id in dir(builtins):
                self.assertIn(node.id, BUILTINS, (name, node.lineno))
        for name, node in nodes(ast.Attribute):
            self.assertIn(node.attr, METHODS | methods | kept, (name, node.lineno))
        self.assertFalse(kept & NO_ATTRIBUTES)
        self.assertFalse(methods & METHODS)
        classes = {node.name for _, node in nodes(ast.ClassDef)}
        for name, node in nodes(ast.Attribute):
            self.assertFalse(isinstance(node.value, ast.Name) and node.value.id in classes, (name, node.lineno))

    def test_classes_are_called_or_asked_for(self):
        """A class is called, a base, raised, or what isinstance asks for."""
        classes = {node.name for _, node in nodes(ast.ClassDef)}
        for name, tree in TREES.items():
            right = set()
            for node in ast.walk(tree):
                if isinstance(node, ast.Call):
                    right.add(id(node.func))
                    if isinstance(node.func, ast.Name) and node.func.id == "isinstance":
                        right.update(id(part) for part in ast.walk(node.args[1]))
                elif isinstance(node, ast.ClassDef):
                    right.update(id(part) for part in node.bases)
            for node in ast.walk(tree):
                if isinstance(node, ast.Name) and node.id in classes:
                    self.assertIn(id(node), right, (name, node.lineno))

    def test_stars_in_calls(self):
        for name, node in nodes(ast.Call):
            self.assertTrue(has_plain_stars(node), (name, node.lineno, ast.unparse(node)))

    def test_stars_in_calls_are_told_apart(self):
        """What looks for wrong stars finds each kind of them, and lets the right ones by."""
        for text in (
            "f(*g(x))", "f(*box.rows())", "f(*xs[0])", "f(*xs[1:])", "f(*xs + ys)", "f(*[1] * 2)", "f(*-x)", "f(*xs or ys)",
            "f(*box.row.now)", "f(*xs[0].now)", "f(*g(x).now)", "f(*(xs if x else ys))", "f(*[g(x)])", "f(*(a, xs[0]))",
            "f(*[x for x in xs])", "f(*(x for x in xs))", "f(*{a: g(x)})", "f(*{xs[0]: 1})", "f(*[*xs, 1])", "f(*{**d})",
            "f(*[(a, (b + c,))])", "f(k, *g(x))", "f(*xs, *g(x))", "f(*xs, g(x))", "f(*xs, n=g(x))", "box.told(*g(x))",
            "f(**g(x))", "f(**d[k])", "f(**d | e)", "f(**box.row.now)", "f(**{'a': 1})", "f(g(x), **d)", "f(xs[0], **d)",
            "f(a + b, **d)", "f(*g(x), **d)", "f(n=g(x), **d)",
        ):
            self.assertFalse(has_plain_stars(ast.parse(text, mode="eval").body), text)
        for text in (
            "f()", "f(g(x), xs[0], a + b, n=g(x))", "f(*xs)", "f(*box.rows)", "f(*'ab')", "f(*(1, None))", "f(*[a, box.b, 'c'])",
            "f(*{a: 1, 'b': box.b})", "f(*[(a, (b, 2)), []])", "f(k, *xs)", "f(g(x), *xs)", "f(*xs, *ys)", "f(*xs, n, sep=n)",
            "f(**d)", "f(**box.names)", "f(k, box.n, 1, **d)", "f(*xs, **d)", "f([*g(x), 1], (*xs[1:], *ys))", "f({**g(x)})",
        ):
            self.assertTrue(has_plain_stars(ast.parse(text, mode="eval").body), text)

    def test_signs(self):
        for name, node in nodes((ast.Pow, ast.Div, ast.Mod, ast.MatMult)):
            self.fail((name, node))
        for name, node in nodes(ast.Compare):
            if isinstance(node.ops[0], (ast.Is, ast.IsNot)):
                self.assertIsInstance(node.comparators[0], ast.Constant, (name, node.lineno))
        for name, node in nodes(ast.Constant):
            self.assertNotIsInstance(node.value, (float, complex, bytes), name)
            if isinstance(node.value, str):
                self.assertNotIn("%", node.value, name)

    def test_views_are_gone_over_at_once(self):
        """zip, enumerate, reversed, range, items, keys and values stand where they are iterated."""
        views = {"zip", "enumerate", "reversed", "range"}
        takers = {"list", "tuple", "dict", "sorted", "sum", "any", "all", "enumerate", "zip"}
        for name, tree in TREES.items():
            right = set()
            for node in ast.walk(tree):
                if isinstance(node, (ast.For, ast.comprehension)):
                    right.add(id(node.iter))
                elif isinstance(node, ast.Call) and isinstance(node.func, ast.Name):
                    if node.func.id in takers:
                        right.update(id(part) for part in node.args[:None if node.func.id == "zip" else 1])
                    elif node.func.id == "reversed" and isinstance(node.args[0], ast.Call):
                        self.assertEqual(node.args[0].func.id, "range", (name, node.lineno))
                        right.add(id(node.args[0]))
            for node in ast.walk(tree):
                if isinstance(node, ast.Call):
                    told = node.func.id if isinstance(node.func, ast.Name) else getattr(node.func, "attr", "")
                    if told in views or told in ("items", "keys", "values"):
                        self.assertIn(id(node), right, (name, node.lineno))

    def test_what_a_loop_goes_over_is_not_changed_in_it(self):
        changes = {"append", "extend", "insert", "pop", "remove", "clear", "update", "setdefault", "reverse"}
        for name, loop in nodes(ast.For):
            over = loop.iter
            while isinstance(over, ast.Call):
                over = over.args[0] if isinstance(over.func, ast.Name) and over.args else getattr(over.func, "value", ast.Constant(0))
            if not isinstance(over, (ast.Name, ast.Attribute)):
                continue
            told = ast.unparse(over)
            for node in [part for row in loop.body for part in ast.walk(row)]:
                if isinstance(node, ast.Call) and isinstance(node.func, ast.Attribute) and node.func.attr in changes:
                    self.assertNotEqual(ast.unparse(node.func.value), told, (name, node.lineno))
                if isinstance(node, ast.Subscript) and not isinstance(node.ctx, ast.Load):
                    self.assertNotEqual(ast.unparse(node.value), told, (name, node.lineno))

    def test_parameters_are_plain(self):
        for name, node in nodes(ast.FunctionDef):
            told = node.args
            self.assertFalse(told.vararg or told.kwarg or told.kwonlyargs or told.posonlyargs, (name, node.name))
            for default in told.defaults:
                self.assertIn(ast.unparse(default), ("()", "0", "''"), (name, node.name))
            inner = [part for row in node.body for part in ast.walk(row)]
            self.assertFalse([part for part in inner if isinstance(part, (ast.FunctionDef, ast.ClassDef))], (name, node.name))

    def test_no_function_comes_back_to_itself(self):
        defined = {node.name: node for _, node in nodes(ast.FunctionDef)}
        leads = {}
        for word, node in defined.items():
            asked = [part.func for part in ast.walk(node) if isinstance(part, ast.Call)]
            found = [func.id for func in asked if isinstance(func, ast.Name)]
            found += [func.attr for func in asked if isinstance(func, ast.Attribute)]
            leads[word] = [other for other in found if other in defined]
        for word in BACK_TO_THEMSELVES:
            self.assertTrue(leads.pop(word))
        self.assertFalse(has_ring(leads))


class Interface(unittest.TestCase):
    def test_names_and_arguments(self):
        for stem, entries in INTERFACE.items():
            module = import_module(f"everycycle.{stem}")
            for name, arguments in entries.items():
                told = getattr(module, name)
                self.assertEqual(told.__module__, f"everycycle.{stem}")
                self.assertEqual(str(inspect.signature(told)), f"({arguments})", name)

    def test_methods_stand_in_the_class_itself(self):
        for (stem, name), methods in METHODS_TOLD.items():
            box = getattr(import_module(f"everycycle.{stem}"), name)
            for method, arguments in methods.items():
                self.assertEqual(", ".join(inspect.signature(vars(box)[method]).parameters), arguments)


if __name__ == "__main__":
    unittest.main()
