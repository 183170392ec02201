"""Holds the package's own files to the rules of the language part that can be seen in a syntax tree."""

import ast
import builtins
import os
import re
import unittest

PACKAGE = os.path.join(os.path.dirname(os.path.dirname(os.path.abspath(__file__))), "facestead")

OWN_NAMES = """len range enumerate zip min max sum abs sorted reversed int str bool list tuple dict set frozenset
    isinstance ord repr any all divmod Exception ValueError TypeError KeyError IndexError LookupError
    ZeroDivisionError ArithmeticError OverflowError RuntimeError NotImplementedError AttributeError
    StopIteration""".split()
OWN_METHODS = """append clear copy count endswith extend find get index insert isalnum isalpha isdigit islower
    isspace isupper items join keys ljust lower lstrip partition pop remove replace reverse rfind rjust rpartition
    rsplit rstrip setdefault split splitlines startswith strip update upper values zfill bit_length""".split()
TWO_UNDERSCORES = ["__init__", "__eq__", "__repr__", "__str__", "__len__"]
VALUE_NAMES = "count index title find get join lower upper split strip copy add".split()
UNUSED = "register mro elements open input version_info with_traceback add_note format format_map".split()
UNSPOKEN = """type typing typing_extensions enum Enum IntEnum StrEnum Flag IntFlag Generic Protocol ABC ABCMeta
    namedtuple NamedTuple TypedDict TYPE_CHECKING abstractmethod""".split()
UNSPOKEN_WITHIN = ["dataclass", "overload", "contextmanager"]

# nodes that the rules allow; those of operators and contexts are left out of the look
STATEMENTS = (ast.Assign, ast.AugAssign, ast.If, ast.While, ast.For, ast.Return, ast.Break, ast.Continue, ast.Pass,
              ast.Raise, ast.Try, ast.ExceptHandler, ast.Expr, ast.FunctionDef, ast.ClassDef, ast.ImportFrom)
EXPRESSIONS = (ast.Constant, ast.Name, ast.Attribute, ast.Subscript, ast.Slice, ast.Call, ast.keyword, ast.BinOp,
               ast.BoolOp, ast.UnaryOp, ast.Compare, ast.IfExp, ast.List, ast.Tuple, ast.Dict, ast.Set, ast.ListComp,
               ast.comprehension, ast.Lambda, ast.JoinedStr, ast.FormattedValue)
OTHERS = (ast.Module, ast.arguments, ast.arg, ast.alias, ast.operator, ast.unaryop, ast.boolop, ast.cmpop,
          ast.expr_context)


def package_files():
    return sorted([name for name in os.listdir(PACKAGE) if name != "__pycache__"])


def source(name):
    with open(os.path.join(PACKAGE, name), encoding="utf-8", newline="") as file:
        return file.read()


class Language(unittest.TestCase):
    def setUp(self):
        self.trees = {name: ast.parse(source(name)) for name in package_files()}

    def nodes(self, *classes):
        for name, tree in self.trees.items():
            for node in ast.walk(tree):
                if isinstance(node, classes):
                    yield "%s:%s" % (name, getattr(node, "lineno", 0)), node

    def test_files(self):
        self.assertIn("__init__.py", package_files())
        for name in package_files():
            self.assertRegex(name, r"\A(__init__|[a-z][a-z0-9_]*)\.py\Z")
            self.assertNotIn(name[:-3], dir(builtins) + UNSPOKEN)

    def test_signs_and_sizes(self):
        for name in package_files():
            text = source(name)
            self.assertRegex(text, r"\A[ -~\n]*\Z", name)
            self.assertLessEqual(len(text.splitlines()), 400, name)
            for row in text.splitlines():
                self.assertLessEqual(len(row), 120, name)
        for where, node in self.nodes(ast.FunctionDef):
            self.assertLessEqual(node.end_lineno - node.lineno + 1, 40, where)

    def test_words(self):
        for name in package_files():
            words = re.findall(r"\w+", source(name))
            self.assertEqual([word for word in words if word in UNSPOKEN], [], name)
            for part in UNSPOKEN_WITHIN:
                self.assertNotIn(part, source(name), name)
        for where, node in self.nodes(ast.Constant):
            if isinstance(node.value, str):
                self.assertNotIn("%", node.value, where)

    def test_nodes(self):
        for where, node in self.nodes(ast.AST):
            self.assertIsInstance(node, STATEMENTS + EXPRESSIONS + OTHERS, where)
        for where, node in self.nodes(ast.Assign):
            self.assertEqual(len(node.targets), 1, where)
            self.assertNotIsInstance(node.targets[0], (ast.Tuple, ast.List), where)
        for where, node in self.nodes(ast.For, ast.While, ast.Try):
            self.assertEqual(node.orelse if not isinstance(node, ast.Try) else node.finalbody, [], where)
        for where, node in self.nodes(ast.ListComp):
            self.assertEqual(len(node.generators), 1, where)
            self.assertLessEqual(len(node.generators[0].ifs), 1, where)
        for where, node in self.nodes(ast.Constant):
            self.assertIsInstance(node.value, (int, str, type(None)), where)
        for where, node in self.nodes(ast.Div, ast.MatMult):
            self.fail(where)

    def test_what_stands_by_itself_is_a_call(self):
        heads = [tree.body[0] for tree in self.trees.values()]
        for where, node in self.nodes(ast.Expr):
            self.assertTrue(node in heads or isinstance(node.value, ast.Call), where)

    def test_tops(self):
        for name, tree in self.trees.items():
            self.assertIsInstance(ast.get_docstring(tree), str, name)
            bound = []
            for node in tree.body[1:]:
                self.assertIsInstance(node, (ast.ImportFrom, ast.FunctionDef, ast.ClassDef, ast.Assign), name)
                if isinstance(node, ast.Assign):
                    bound.append(node.targets[0].id)
                    for part in ast.walk(node.value):
                        self.assertNotIsInstance(part, (ast.Call, ast.Set, ast.Lambda), name)
                elif not isinstance(node, ast.ImportFrom):
                    bound.append(node.name)
            self.assertEqual(len(bound), len(set(bound)), name)

    def test_imports(self):
        drawn = {}
        for name, tree in self.trees.items():
            drawn[name] = []
            for node in ast.walk(tree):
                if isinstance(node, ast.ImportFrom):
                    self.assertIn(node, tree.body, name)
                    self.assertEqual(node.level, 0, name)
                    self.assertTrue(node.module.startswith("facestead."), name)
                    drawn[name].append(node.module.split(".")[1] + ".py")
                    defined = [each.name for each in self.trees[drawn[name][-1]].body
                               if isinstance(each, (ast.FunctionDef, ast.ClassDef))]
                    defined += [each.targets[0].id for each in self.trees[drawn[name][-1]].body
                                if isinstance(each, ast.Assign)]
                    for alias in node.names:
                        self.assertIn(alias.name, defined, name)
        while drawn:
            free = [name for name in drawn if not [other for other in drawn[name] if other in drawn]]
            self.assertNotEqual(free, [], "files draw from one another")
            drawn = {name: drawn[name] for name in drawn if name not in free}

    def test_functions_and_classes(self):
        for where, node in self.nodes(ast.FunctionDef, ast.Lambda):
            args = node.args
            self.assertEqual([args.vararg, args.kwarg, args.kwonlyargs, args.posonlyargs], [None, None, [], []], where)
            if isinstance(node, ast.FunctionDef):
                self.assertEqual(node.decorator_list, [], where)
        for where, node in self.nodes(ast.ClassDef):
            self.assertEqual(node.decorator_list + node.keywords, [], where)
            self.assertLessEqual(len(node.bases), 1, where)
            for part in node.body:
                self.assertIsInstance(part, (ast.FunctionDef, ast.Pass), where)
            methods = [part.name for part in node.body if isinstance(part, ast.FunctionDef)]
            self.assertEqual(len(methods), len(set(methods)), where)

    def test_names(self):
        for where, node in self.nodes(ast.Name, ast.arg, ast.FunctionDef, ast.ClassDef):
            name = getattr(node, "id", getattr(node, "arg", getattr(node, "name", "")))
            self.assertNotIn(name, UNUSED, where)
            if name.startswith("_"):
                self.assertIn(name, TWO_UNDERSCORES, where)
            if isinstance(node, ast.Name) and isinstance(node.ctx, ast.Load) and name in dir(builtins):
                self.assertIn(name, OWN_NAMES, where)
            elif isinstance(node, (ast.Name, ast.arg)) and not isinstance(getattr(node, "ctx", None), ast.Load):
                self.assertNotIn(name, dir(builtins), where)

    def test_locals_are_not_called_like_classes_or_imports(self):
        for file, tree in self.trees.items():
            taken = [node.name for node in tree.body if isinstance(node, ast.ClassDef)]
            for node in tree.body:
                if isinstance(node, ast.ImportFrom):
                    taken += [alias.asname or alias.name for alias in node.names]
            for node in ast.walk(tree):
                if isinstance(node, ast.arg):
                    self.assertNotIn(node.arg, taken, file)
                if isinstance(node, ast.Name) and isinstance(node.ctx, ast.Store):
                    self.assertNotIn(node.id, taken, file)

    def test_methods_and_values(self):
        methods = set()
        for where, node in self.nodes(ast.ClassDef):
            methods |= {part.name for part in node.body if isinstance(part, ast.FunctionDef)}
        values = {node.attr for where, node in self.nodes(ast.Attribute) if isinstance(node.ctx, ast.Store)}
        self.assertEqual(methods & values, set())
        python_own = set()
        for value in ["", 0, [], {}, set(), b"", ()]:
            python_own |= {name for name in dir(value) if not name.startswith("_")}
        self.assertEqual((methods & python_own) - set(OWN_METHODS) - {"add", "discard"}, set())
        self.assertEqual((values & python_own) - set(VALUE_NAMES), set())
        for where, node in self.nodes(ast.Attribute):
            self.assertNotIn(node.attr, UNUSED, where)
            if node.attr not in methods and node.attr not in values:
                self.assertIn(node.attr, OWN_METHODS, where)

    def test_methods_are_called_where_they_stand(self):
        called = [node.func for where, node in self.nodes(ast.Call)]
        values = {node.attr for where, node in self.nodes(ast.Attribute) if isinstance(node.ctx, ast.Store)}
        for where, node in self.nodes(ast.Attribute):
            self.assertTrue(node in called or node.attr in values, where)

    def test_is_stands_beside_none_and_truths_alone(self):
        for where, node in self.nodes(ast.Compare):
            if isinstance(node.ops[0], (ast.Is, ast.IsNot)):
                self.assertIsInstance(node.comparators[0], ast.Constant, where)
                self.assertIn(node.comparators[0].value, [None, True, False], where)

    def test_sets_are_asked_on_the_spot(self):
        fit = []
        for where, node in self.nodes(ast.Call):
            if isinstance(node.func, ast.Name) and node.func.id in ["len", "sorted"] and not node.keywords:
                fit += [part for part in ast.walk(node.args[0])]
        for where, node in self.nodes(ast.Compare):
            fit += [node.left] + node.comparators
        for where, node in self.nodes(ast.Call, ast.Set):
            if isinstance(node, ast.Set) or isinstance(node.func, ast.Name) and node.func.id in ["set", "frozenset"]:
                self.assertIn(node, fit, where)

    def test_errors(self):
        own = [node.name for where, node in self.nodes(ast.ClassDef)]
        for where, node in self.nodes(ast.Raise):
            self.assertIsInstance(node.exc, ast.Call, where)
        for where, node in self.nodes(ast.ExceptHandler):
            self.assertIsInstance(node.type, ast.Name, where)
            self.assertIn(node.type.id, own + ["KeyError", "ZeroDivisionError", "StopIteration"], where)

    def test_tops_are_only_read(self):
        for file, tree in self.trees.items():
            kept = [node for node in tree.body
                    if isinstance(node, ast.Assign) and isinstance(node.value, (ast.List, ast.Dict))]
            names = [node.targets[0].id for node in kept]
            for node in kept:
                inner = list(ast.walk(node.value))[1:]
                self.assertEqual([part for part in inner if isinstance(part, (ast.List, ast.Dict))], [], file)
            fit = []
            for node in ast.walk(tree):
                if isinstance(node, ast.Subscript) and isinstance(node.ctx, ast.Load):
                    fit.append(node.value)
                elif isinstance(node, ast.Attribute) and node.attr in ["get", "items", "keys", "values", "index"]:
                    fit.append(node.value)
                elif isinstance(node, ast.Compare):
                    fit += node.comparators
                elif isinstance(node, (ast.For, ast.comprehension)):
                    fit.append(node.iter)
                elif isinstance(node, ast.Call) and isinstance(node.func, ast.Name):
                    fit += node.args if node.func.id in ["len", "list", "dict", "sorted", "tuple"] else []
            for node in ast.walk(tree):
                if isinstance(node, ast.Name) and isinstance(node.ctx, ast.Load) and node.id in names:
                    self.assertIn(node, fit, "%s:%s" % (file, node.lineno))

    def test_annotations_and_keywords(self):
        keywords = {"sorted": ["key", "reverse"], "min": ["key", "default"], "max": ["key", "default"],
                    "sum": ["start"], "enumerate": ["start"], "zip": ["strict"]}
        for where, node in self.nodes(ast.FunctionDef):
            self.assertIs(node.returns, None, where)
        for where, node in self.nodes(ast.arg):
            self.assertIs(node.annotation, None, where)
        for where, node in self.nodes(ast.Call):
            for keyword in node.keywords:
                self.assertIn(keyword.arg, keywords.get(getattr(node.func, "id", ""), []), where)

    def test_walked_on_the_spot(self):
        fit = []
        for where, node in self.nodes(ast.For, ast.comprehension):
            fit.append(node.iter)
        for where, node in self.nodes(ast.Call):
            if isinstance(node.func, ast.Name) and node.func.id in [
                    "list", "tuple", "dict", "sorted", "sum", "any", "all", "enumerate", "zip", "min", "max"]:
                fit += node.args[:1]
            if isinstance(node.func, ast.Attribute) and node.func.attr == "join":
                fit += node.args
        for where, node in self.nodes(ast.Call):
            name = getattr(node.func, "id", getattr(node.func, "attr", ""))
            if name in ["zip", "enumerate", "reversed", "range", "items", "keys", "values"]:
                self.assertIn(node, fit, where)

    def test_what_a_loop_walks_is_not_changed_in_it(self):
        changes = "append clear extend insert pop remove reverse setdefault update".split()
        for where, loop in self.nodes(ast.For):
            walked = {part.id for part in ast.walk(loop.iter) if isinstance(part, ast.Name)}
            if isinstance(loop.iter, ast.Call) and getattr(loop.iter.func, "id", "") in ["list", "range", "sorted"]:
                continue
            for node in ast.walk(loop):
                if isinstance(node, ast.Call) and isinstance(node.func, ast.Attribute) and node.func.attr in changes:
                    self.assertNotIn(getattr(node.func.value, "id", ""), walked, where)
                if isinstance(node, ast.Subscript) and isinstance(node.ctx, ast.Store):
                    self.assertNotIn(getattr(node.value, "id", ""), walked, where)

    def test_classes_are_not_handed_on(self):
        own = [node.name for where, node in self.nodes(ast.ClassDef)]
        fit = []
        for where, node in self.nodes(ast.Call):
            fit.append(node.func)
            if getattr(node.func, "id", "") == "isinstance":
                fit += list(ast.walk(node.args[1]))
        for where, node in self.nodes(ast.ClassDef):
            fit += node.bases
        for where, node in self.nodes(ast.ExceptHandler):
            fit.append(node.type)
        for where, node in self.nodes(ast.Attribute):
            fit += [node.value] if node.attr == "__init__" else []
        for where, node in self.nodes(ast.Name):
            if node.id in own:
                self.assertIn(node, fit, where)

    def test_numbers_and_escapes(self):
        for where, node in self.nodes(ast.Pow):
            self.fail(where)
        for name in package_files():
            self.assertEqual(re.findall(r"\\[^nt\\\"']", source(name)), [], name)


if __name__ == "__main__":
    unittest.main()
