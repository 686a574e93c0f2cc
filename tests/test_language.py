"""The rules of the language that a plain reading of the files can judge."""

import ast
import builtins
import pathlib
import re
import unittest

PACKAGE = pathlib.Path(__file__).resolve().parent.parent / "threeshapes"
FILES = sorted(PACKAGE.rglob("*.py"))

LIBRARY = {
    "heapq": {"heappush", "heappop", "heapify", "heapreplace", "heappushpop"},
    "math": {"gcd", "lcm", "isqrt", "comb", "perm", "factorial"},
    "itertools": {"product", "combinations", "permutations"},
}
BUILTINS = set(
    "len range enumerate zip min max sum abs sorted reversed int str bool list tuple dict set isinstance ord repr any"
    " all divmod iter Exception ValueError TypeError KeyError IndexError LookupError ZeroDivisionError RuntimeError"
    " NotImplementedError property".split()
)
BARRED = set(
    "register mro elements open input law version_info with_traceback add_note attrgetter breakpoint compile copyright"
    " credits delattr dir eval exec exit gc getattr globals hasattr help id importlib license locals methodcaller os"
    " quit setattr super type vars sys typing enum namedtuple dataclass overload contextmanager".split()
)
METHODS = set(
    "add append clear copy count endswith extend find get index insert items join keys pop remove replace reverse"
    " setdefault split startswith strip update values".split()
)
AT_ONCE = {"range", "zip", "enumerate", "reversed"}
TAKERS = {"list", "tuple", "dict", "sorted", "sum", "any", "all", "enumerate", "zip", "min", "max", "combinations"}
CHANGERS = set("add append clear discard extend insert pop remove reverse setdefault sort update".split())
STATEMENTS = (
    ast.Assign, ast.If, ast.While, ast.For, ast.Return, ast.Break, ast.Continue, ast.Pass, ast.Raise, ast.Assert,
    ast.Delete, ast.Try, ast.Expr, ast.FunctionDef, ast.ClassDef, ast.ImportFrom,
)


def bound_names(node):
    """The names that a node binds."""
    if isinstance(node, (ast.FunctionDef, ast.ClassDef)):
        yield node.name
    if isinstance(node, ast.arg):
        yield node.arg
    if isinstance(node, ast.Name) and not isinstance(node.ctx, ast.Load):
        yield node.id
    if isinstance(node, ast.alias):
        yield node.asname or node.name


def values_of(node):
    """The values that an expression may be or go over, without choices and views around them."""
    if isinstance(node, ast.IfExp):
        parts = [node.body, node.orelse]
    elif isinstance(node, ast.BoolOp):
        parts = node.values
    elif isinstance(node, ast.Call) and ast.unparse(node.func) in ("enumerate", "reversed", "zip"):
        parts = node.args
    elif isinstance(node, ast.Call) and isinstance(node.func, ast.Attribute) and (
            node.func.attr in ("items", "keys", "values")):
        parts = [node.func.value]
    else:
        return [ast.unparse(node)] if isinstance(node, (ast.Name, ast.Attribute, ast.Subscript)) else []
    return [value for part in parts for value in values_of(part)]


def changed_values(parts):
    """The values that a call or an assignment in these parts changes, each with its row."""
    for node in [inner for part in parts for inner in ast.walk(part)]:
        if isinstance(node, ast.Call) and isinstance(node.func, ast.Attribute) and node.func.attr in CHANGERS:
            yield ast.unparse(node.func.value), node.lineno
        elif isinstance(node, (ast.Attribute, ast.Subscript)) and not isinstance(node.ctx, ast.Load):
            yield ast.unparse(node.value), node.lineno
        elif isinstance(node, ast.AugAssign):
            yield ast.unparse(node.target), node.lineno


def couples_of(target, value):
    """The names and values that an assignment makes names of one value."""
    if isinstance(target, ast.Tuple) and isinstance(value, ast.Tuple):
        return [couple for inner in zip(target.elts, value.elts) for couple in couples_of(*inner)]
    return [(ast.unparse(target), one) for one in values_of(value)]


def alike_values(function):
    """For each name or value that the function gives another name: all that are names of it, at whatever time."""
    alike = {}
    for node in ast.walk(function):
        for target in node.targets if isinstance(node, ast.Assign) else ():
            for one, other in couples_of(target, node.value):
                joined = alike.get(one, {one}) | alike.get(other, {other})
                alike.update({name: joined for name in joined})
    return alike


def changed_while_walked(function):
    """The rows in which a loop or comprehension changes what it goes over, by whatever name."""
    alike = alike_values(function)
    for loop in ast.walk(function):
        if isinstance(loop, ast.For):
            walked, parts = values_of(loop.iter), loop.body + loop.orelse
        elif isinstance(loop, (ast.ListComp, ast.SetComp, ast.DictComp)):
            walked, parts = [value for part in loop.generators for value in values_of(part.iter)], [loop]
        else:
            continue
        for value, row in changed_values(parts):
            if any(value in alike.get(one, {one}) for one in walked):
                yield row


class LanguageTest(unittest.TestCase):
    def each_node(self):
        for path in FILES:
            tree = ast.parse(path.read_text())
            for node in ast.walk(tree):
                for child in ast.iter_child_nodes(node):
                    child.above = node
            for node in ast.walk(tree):
                yield path.name + ":" + str(getattr(node, "lineno", 0)), node

    def test_files(self):
        self.assertTrue(FILES)
        for path in FILES:
            self.assertRegex(path.name, r"^[a-z_]+\.py$")
            text = path.read_bytes().decode("ascii")
            self.assertTrue(all(sign == "\n" or " " <= sign <= "~" for sign in text), path)
            lines = text.split("\n")
            self.assertLessEqual(len(lines), 400, path)
            for number, line in enumerate(lines, 1):
                self.assertLessEqual(len(line), 120, (path, number))
            self.assertIsNone(re.search(r"_wall|_WallAttr", text), path)
        for path in PACKAGE.rglob("*"):
            self.assertTrue(path.suffix == ".py" or "__pycache__" in path.parts, path)

    def test_imports(self):
        for place, node in self.each_node():
            self.assertNotIsInstance(node, ast.Import, place)
            if isinstance(node, ast.ImportFrom):
                self.assertEqual(node.level, 0, place)
                for alias in node.names:
                    self.assertIsNone(alias.asname, place)
                    if node.module in LIBRARY:
                        self.assertIn(alias.name, LIBRARY[node.module], place)
                    else:
                        source = PACKAGE / (node.module.removeprefix("threeshapes.") + ".py")
                        self.assertRegex(source.read_text(), r"(?m)^(def|class) " + alias.name + r"\b|^" + alias.name)

    def test_imports_do_not_go_in_circles(self):
        needs = {}
        for path in FILES:
            tree = ast.parse(path.read_text())
            needs[path.stem] = [
                node.module.removeprefix("threeshapes.") for node in ast.walk(tree)
                if isinstance(node, ast.ImportFrom) and node.module.startswith("threeshapes.")
            ]
        done = set()
        while len(done) < len(needs):
            ready = [name for name in needs if name not in done and done.issuperset(needs[name])]
            self.assertTrue(ready, needs)
            done.update(ready)

    def test_statements_and_expressions(self):
        for place, node in self.each_node():
            if isinstance(node, ast.stmt):
                self.assertIsInstance(node, STATEMENTS, place)
            self.assertNotIsInstance(node, (ast.Global, ast.Lambda, ast.GeneratorExp, ast.Set, ast.NamedExpr), place)
            if isinstance(node, ast.BinOp):
                self.assertNotIsInstance(node.op, (ast.Div, ast.Pow, ast.MatMult), place)
            if isinstance(node, ast.Constant):
                self.assertNotIsInstance(node.value, (float, complex, bytes), place)
                if isinstance(node.value, str):
                    self.assertNotIn("%", node.value, place)
                    self.assertNotIn("\\", node.value, place)
            if isinstance(node, (ast.FunctionDef, ast.ClassDef)):
                for decorator in node.decorator_list:
                    self.assertEqual(ast.unparse(decorator), "property", place)
            if isinstance(node, ast.Compare) and any(isinstance(op, (ast.Is, ast.IsNot)) for op in node.ops):
                self.assertIn(ast.unparse(node.comparators[0]), ("None", "True", "False"), place)

    def test_size_of_functions(self):
        for place, node in self.each_node():
            if isinstance(node, ast.FunctionDef):
                self.assertLessEqual(node.end_lineno - node.lineno + 1, 40, place)

    def test_names(self):
        for place, node in self.each_node():
            for name in bound_names(node):
                self.assertRegex(name, r"^(_?[A-Za-z][A-Za-z0-9_]*|_|__init__|__eq__|__iter__)$", place)
                self.assertNotIn(name, BARRED, place)
                if not name.startswith("__"):
                    self.assertFalse(hasattr(builtins, name), place + " " + name)
            if isinstance(node, ast.Name) and isinstance(node.ctx, ast.Load) and hasattr(builtins, node.id):
                self.assertIn(node.id, BUILTINS, place)
            if isinstance(node, ast.Attribute):
                self.assertNotIn(node.attr, BARRED, place)

    def test_no_local_name_hides_a_name_of_its_file(self):
        for path in FILES:
            tree = ast.parse(path.read_text())
            taken = {name for node in tree.body for part in ast.walk(node) for name in bound_names(part)
                     if part is node or isinstance(node, ast.ImportFrom)}
            for outer in ast.walk(tree):
                if isinstance(outer, ast.FunctionDef):
                    for node in ast.walk(outer):
                        if node is not outer:
                            self.assertFalse(taken.intersection(bound_names(node)), (path.name, outer.name))

    def test_methods_of_builtin_values(self):
        own = {node.name for _, node in self.each_node() if isinstance(node, ast.FunctionDef)}
        for place, node in self.each_node():
            if isinstance(node, ast.Call) and isinstance(node.func, ast.Attribute):
                self.assertIn(node.func.attr, METHODS | own, place)

    def test_sets(self):
        """A set is sorted or measured on the spot, or a local name is assigned it once and only asked and added to."""
        for place, node in self.each_node():
            if isinstance(node, (ast.Set, ast.SetComp)) or (
                    isinstance(node, ast.Call) and ast.unparse(node.func) == "set"):
                above = node.above
                if isinstance(above, ast.Call):
                    self.assertIn(ast.unparse(above.func), ("sorted", "len"), place)
                    self.assertEqual(above.keywords, [], place)
                else:
                    self.assertIsInstance(above, ast.Assign, place)
                    self.assert_stored_set(place, above)

    def assert_stored_set(self, place, statement):
        name = statement.targets[0].id
        function = statement
        while not isinstance(function, ast.FunctionDef):
            function = function.above
        for node in ast.walk(function):
            if isinstance(node, ast.Name) and node.id == name and node is not statement.targets[0]:
                self.assertIsInstance(node.ctx, ast.Load, place)
                above = node.above
                if isinstance(above, ast.Attribute):
                    self.assertIn(above.attr, ("add", "discard"), place)
                    self.assertIsInstance(above.above.above, ast.Expr, place)
                elif isinstance(above, ast.Compare):
                    self.assertIsInstance(above.ops[0], (ast.In, ast.NotIn), place)
                    self.assertIs(above.comparators[0], node, place)
                else:
                    self.assertIn(ast.unparse(above.func), ("sorted", "len"), place)

    def test_iterated_at_once(self):
        for place, node in self.each_node():
            if isinstance(node, ast.Call) and isinstance(node.func, ast.Name) and node.func.id in AT_ONCE:
                above = node.above
                if isinstance(above, ast.Call):
                    self.assertIn(ast.unparse(above.func), TAKERS | {"reversed"}, place)
                else:
                    self.assertIsInstance(above, (ast.For, ast.comprehension), place)

    def test_what_is_walked_is_not_changed(self):
        for place, node in self.each_node():
            if isinstance(node, ast.FunctionDef):
                self.assertEqual(list(changed_while_walked(node)), [], place)

    def test_what_is_walked_is_told_by_all_its_names(self):
        for rows in (
            "longer = []\nfor row in rows:\n    longer.append(row)\nrows = longer",
            "for row in rows:\n    rows.append(row)",
            "for at, row in enumerate(rows):\n    rows[at] = 0",
            "for key, row in rows.items():\n    del rows[key]",
            "others = rows if rows else []\nfor row in others:\n    rows.pop()",
            "for row in rows or others:\n    others += [row]",
            "rows = self.rows\nfor row in rows:\n    self.rows.sort()",
            "rows, others = others, rows\nfor row in rows:\n    if row:\n        others.clear()",
            "return [rows.pop() for row in rows]",
        ):
            self.assertEqual(len(list(changed_while_walked(ast.parse(rows)))), 1, rows)
        for rows in (
            "longer = list(rows)\nfor row in rows:\n    longer.append(row)",
            "longer = []\nfor row in list(rows):\n    longer.append(row)\nrows = longer",
            "for row in rows:\n    row.append(1)\nrows.append(2)",
            "rows = later(longer)\nfor row in rows:\n    longer[row] = 1",
        ):
            self.assertEqual(list(changed_while_walked(ast.parse(rows))), [], rows)

    def test_generators_are_iterated_at_once(self):
        names = set()
        for _, node in self.each_node():
            if isinstance(node, ast.FunctionDef) and any(isinstance(part, ast.Yield) for part in ast.walk(node)):
                names.add(node.name)
        for place, node in self.each_node():
            if isinstance(node, ast.Name) and node.id in names:
                self.assertIsInstance(node.above, ast.Call, place)
                self.assertIsInstance(node.above.above, (ast.For, ast.comprehension), place)

    def test_module_level(self):
        for path in FILES:
            for node in ast.parse(path.read_text()).body:
                self.assertIsInstance(node, (ast.Expr, ast.ImportFrom, ast.FunctionDef, ast.ClassDef, ast.Assign), path)
                if isinstance(node, ast.Expr):
                    self.assertIsInstance(node.value, ast.Constant, path)
                if isinstance(node, ast.Assign):
                    self.assertEqual(len(node.targets), 1, path)
                    ast.literal_eval(node.value)


if __name__ == "__main__":
    unittest.main()
