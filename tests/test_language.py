"""The package keeps to the subset of Python that it is written in.

These checks are those of the rules that can be seen in the code by simple
means; the names of the tests tell which rules are meant.
"""

import ast
import builtins
import pathlib
import re
import unittest

FOLDER = pathlib.Path(__file__).resolve().parent.parent / "everyfoe"
FILES = sorted(FOLDER.rglob("*.py"))
LIBRARY = {
    "math": {"gcd", "lcm", "isqrt", "comb", "perm", "factorial"},
    "itertools": {"accumulate", "pairwise", "islice", "zip_longest", "chain", "product", "combinations", "permutations"},
    "heapq": {"heappush", "heappop", "heapify", "heapreplace", "heappushpop"},
}
CALLED = set(
    "len range enumerate zip min max sum abs sorted reversed int str bool list tuple dict isinstance ord repr any all"
    " divmod ValueError NotImplemented".split()
)
METHODS = set(
    "append clear copy count endswith extend find get index insert isalnum isalpha isdigit islower isspace isupper"
    " items join keys ljust lower lstrip partition pop remove replace reverse rfind rjust rpartition rsplit rstrip"
    " setdefault split splitlines startswith strip update upper values zfill bit_length".split()
)
DOUBLE = set(
    "__init__ __eq__ __repr__ __str__ __len__ __enter__ __exit__ __call__ __iter__ __lt__ __le__ __gt__ __ge__ __ne__"
    " __add__ __sub__ __mul__ __neg__ __contains__".split()
)
BARRED = (
    ast.GeneratorExp, ast.Yield, ast.YieldFrom, ast.Global, ast.AsyncFunctionDef, ast.Await, ast.Set, ast.SetComp,
    ast.Div, ast.Import, ast.AnnAssign, ast.Lambda, ast.Nonlocal,
)
AT_ONCE = set("list tuple dict sorted sum any all enumerate zip min max".split())
LATE = set("zip enumerate reversed map".split())
CHANGING = set("append clear extend insert pop remove reverse setdefault update".split())


def tree_of(path):
    return ast.parse(path.read_text(encoding="ascii"))


def nodes_of(kind):
    """All nodes of a kind, with the file and line that they stand in."""
    for path in FILES:
        for node in ast.walk(tree_of(path)):
            if isinstance(node, kind):
                yield f"{path.name}:{getattr(node, 'lineno', 0)}", node


def bound_names(tree):
    """Names that are bound at module level, and those of imports and classes."""
    names = []
    strict = set()
    for node in tree.body:
        if isinstance(node, ast.ImportFrom):
            found = [alias.name for alias in node.names]
            strict.update(found)
            names += found
        elif isinstance(node, ast.ClassDef):
            names.append(node.name)
            strict.add(node.name)
        elif isinstance(node, ast.FunctionDef):
            names.append(node.name)
        elif isinstance(node, ast.Assign):
            names += [target.id for target in node.targets]
    return names, strict


def functions_of(tree):
    return [node for node in ast.walk(tree) if isinstance(node, ast.FunctionDef)]


def local_names(function):
    given = function.args
    names = {arg.arg for arg in given.posonlyargs + given.args + given.kwonlyargs}
    for node in ast.walk(function):
        if isinstance(node, ast.Name) and isinstance(node.ctx, ast.Store):
            names.add(node.id)
    return names


class LanguageTest(unittest.TestCase):
    def test_files_l1_l10_l14(self):
        for path in FOLDER.rglob("*"):
            if "__pycache__" not in path.parts:
                self.assertRegex(path.name, r"^[a-z0-9_]+\.py$")
        for path in FILES:
            lines = path.read_text(encoding="ascii").split("\n")
            self.assertLessEqual(len(lines), 400, path.name)
            for number, line in enumerate(lines, 1):
                self.assertLessEqual(len(line), 120, f"{path.name}:{number}")
                self.assertRegex(line, r"^[ -~]*$", f"{path.name}:{number}")

    def test_functions_are_short_l10(self):
        for where, node in nodes_of(ast.FunctionDef):
            self.assertLessEqual(node.end_lineno - node.lineno + 1, 40, where)

    def test_imports_l2_l16(self):
        known = {path.stem: bound_names(tree_of(path))[0] for path in FILES}
        for path in FILES:
            body = tree_of(path).body
            first = 1 if body and isinstance(body[0], ast.Expr) else 0
            kinds = [isinstance(node, ast.ImportFrom) for node in body[first:]]
            self.assertEqual(kinds, sorted(kinds, reverse=True), path.name)
        for where, node in nodes_of(ast.ImportFrom):
            names = {alias.name for alias in node.names}
            self.assertTrue(all(alias.asname is None for alias in node.names), where)
            if node.module in LIBRARY:
                self.assertLessEqual(names, LIBRARY[node.module], where)
            else:
                self.assertRegex(node.module, r"^everyfoe\.[a-z_]+$", where)
                source = FOLDER / (node.module.split(".")[1] + ".py")
                defined = [
                    part.name if hasattr(part, "name") else part.targets[0].id
                    for part in tree_of(source).body
                    if isinstance(part, (ast.FunctionDef, ast.ClassDef, ast.Assign))
                ]
                self.assertLessEqual(names, set(defined), where)
                self.assertIn(source.stem, known)

    def test_no_circles_l16(self):
        after = {}
        for path in FILES:
            found = [node.module for node in tree_of(path).body if isinstance(node, ast.ImportFrom)]
            after[path.stem] = [name.split(".")[1] for name in found if name.startswith("everyfoe.")]
        while after:
            free = [name for name in after if not any(other in after for other in after[name])]
            self.assertTrue(free, sorted(after))
            for name in free:
                del after[name]

    def test_every_import_is_used(self):
        for path in FILES:
            tree = tree_of(path)
            used = {node.id for node in ast.walk(tree) if isinstance(node, ast.Name)}
            for node in tree.body:
                if isinstance(node, ast.ImportFrom):
                    for alias in node.names:
                        self.assertIn(alias.name, used, path.name)

    def test_module_level_l3(self):
        for path in FILES:
            for node in tree_of(path).body:
                fits = isinstance(node, (ast.ImportFrom, ast.FunctionDef, ast.ClassDef, ast.Assign))
                text = isinstance(node, ast.Expr) and isinstance(node.value, ast.Constant)
                self.assertTrue(fits or text, f"{path.name}:{node.lineno}")

    def test_barred_kinds_l4_to_l8(self):
        for where, node in nodes_of(BARRED):
            self.fail(f"{where}: {node}")
        for where, node in nodes_of((ast.FunctionDef, ast.ClassDef)):
            self.assertEqual(node.decorator_list, [], where)

    def test_no_star_in_an_index_l7(self):
        for where, node in nodes_of(ast.Subscript):
            stars = [part for part in ast.walk(node.slice) if isinstance(part, ast.Starred)]
            self.assertEqual(stars, [], where)

    def test_constants_l7_l27(self):
        for where, node in nodes_of(ast.Constant):
            self.assertNotIsInstance(node.value, float, where)
            if isinstance(node.value, str):
                self.assertNotIn("%", node.value, where)
        for path in FILES:
            text = path.read_text(encoding="ascii")
            for node in ast.walk(tree_of(path)):
                if isinstance(node, ast.JoinedStr):
                    self.assertNotRegex(ast.get_source_segment(text, node), r"[%\\\\]", f"{path.name}:{node.lineno}")
        for path in FILES:
            self.assertIsNone(re.search(r"\\[^nt\\'\"]", path.read_text(encoding="ascii")), path.name)
        for where, node in nodes_of(ast.BinOp):
            if isinstance(node.op, ast.Pow):
                self.assertIsInstance(node.right, ast.Constant, where)

    def test_names_l8_l12_l15(self):
        for path in FILES:
            tree = tree_of(path)
            names, strict = bound_names(tree)
            self.assertEqual(len(names), len(set(names)), path.name)
            for name in names:
                self.assertFalse(hasattr(builtins, name), f"{path.name}: {name}")
            for function in functions_of(tree):
                for name in local_names(function):
                    self.assertFalse(hasattr(builtins, name), f"{path.name}: {name}")
                    self.assertNotIn(name, strict, path.name)
                    self.assertRegex(name, r"^(_|_?[A-Za-z][A-Za-z0-9_]*)$", path.name)
        for where, node in nodes_of(ast.Name):
            if hasattr(builtins, node.id):
                self.assertIn(node.id, CALLED, where)
            if node.id == "_":
                self.assertIsInstance(node.ctx, ast.Store, where)
        for where, node in nodes_of(ast.FunctionDef):
            if node.name.startswith("__"):
                self.assertIn(node.name, DOUBLE, where)

    def test_methods_l25(self):
        own = {node.name for _, node in nodes_of(ast.FunctionDef)}
        for where, node in nodes_of(ast.Call):
            if isinstance(node.func, ast.Attribute):
                self.assertIn(node.func.attr, METHODS | own, where)
                if node.func.attr in METHODS:
                    self.assertEqual(node.keywords, [], where)
            elif isinstance(node.func, ast.Name) and hasattr(builtins, node.func.id):
                words = {"key", "reverse", "default", "start", "strict"}
                self.assertLessEqual({word.arg for word in node.keywords}, words, where)

    def test_attributes_are_assigned_l18(self):
        assigned = {node.attr for _, node in nodes_of(ast.Attribute) if isinstance(node.ctx, ast.Store)}
        own = {node.name for _, node in nodes_of(ast.FunctionDef)}
        for where, node in nodes_of(ast.Attribute):
            if isinstance(node.ctx, ast.Load):
                self.assertIn(node.attr, assigned | own | METHODS, where)

    def test_attributes_have_free_names_l26(self):
        allowed = set("count index title find get join lower upper split strip copy add".split())
        taken = {name for kind in (str, int, list, dict, set, bytes) for name in dir(kind)} - allowed
        for where, node in nodes_of(ast.Attribute):
            if isinstance(node.ctx, ast.Store):
                self.assertNotIn(node.attr, taken, where)
        free = {"add", "discard"} | METHODS
        for where, node in nodes_of(ast.ClassDef):
            for part in node.body:
                if isinstance(part, ast.FunctionDef) and not part.name.startswith("__"):
                    self.assertNotIn(part.name, taken - free, where)

    def test_rows_of_exit_and_finally_are_plain_l6(self):
        for where, node in nodes_of(ast.Try):
            for part in node.finalbody:
                self.assertIsInstance(part, (ast.Assign, ast.If), where)
                for inner in ast.walk(part):
                    self.assertNotIsInstance(inner, (ast.Call, ast.Subscript, ast.Return), where)
        for where, node in nodes_of(ast.FunctionDef):
            if node.name == "__exit__":
                for part in node.body:
                    self.assertIsInstance(part, (ast.Assign, ast.Expr, ast.Return), where)

    def test_no_name_is_method_and_attribute_of_a_class_l18(self):
        for where, node in nodes_of(ast.ClassDef):
            methods = {part.name for part in node.body if isinstance(part, ast.FunctionDef)}
            stored = {
                part.attr
                for part in ast.walk(node)
                if isinstance(part, ast.Attribute) and isinstance(part.ctx, ast.Store)
            }
            self.assertEqual(methods & stored, set(), where)

    def test_errors_l19(self):
        own = {node.name for _, node in nodes_of(ast.ClassDef)}
        for where, node in nodes_of(ast.ExceptHandler):
            kinds = node.type.elts if isinstance(node.type, ast.Tuple) else [node.type]
            self.assertLessEqual({kind.id for kind in kinds}, own, where)
        for where, node in nodes_of(ast.Raise):
            self.assertIsInstance(node.exc, ast.Call, where)
            self.assertIn(node.exc.func.id, own, where)

    def test_is_l20(self):
        for where, node in nodes_of(ast.Compare):
            for op, right in zip(node.ops, node.comparators):
                if isinstance(op, (ast.Is, ast.IsNot)):
                    self.assertIsInstance(right, ast.Constant, where)

    def test_iterated_at_once_l23(self):
        for path in FILES:
            tree = tree_of(path)
            good = set()
            for node in ast.walk(tree):
                if isinstance(node, (ast.For, ast.comprehension)):
                    good.add(node.iter)
                if isinstance(node, ast.Call) and isinstance(node.func, ast.Name) and node.func.id in AT_ONCE:
                    good.update(node.args[:1])
                if isinstance(node, ast.Call) and getattr(node.func, "attr", "") == "join":
                    good.update(node.args[:1])
            for node in ast.walk(tree):
                if isinstance(node, ast.Call):
                    name = getattr(node.func, "id", getattr(node.func, "attr", ""))
                    if name in LATE or name in ("items", "keys", "values"):
                        self.assertIn(node, good, f"{path.name}:{node.lineno}")

    def test_loops_leave_what_they_go_over_l23(self):
        for where, node in nodes_of(ast.For):
            over = ast.dump(node.iter)
            for part in node.body:
                for inner in ast.walk(part):
                    if isinstance(inner, ast.Subscript) and isinstance(inner.ctx, ast.Store):
                        self.assertNotEqual(ast.dump(inner.value), over, where)
                    if isinstance(inner, ast.Call) and getattr(inner.func, "attr", "") in CHANGING:
                        self.assertNotEqual(ast.dump(inner.func.value), over, where)


if __name__ == "__main__":
    unittest.main()
