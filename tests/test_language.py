"""The rules of LANGUAGE.md that can be seen from the code alone, for each file of the package."""

import ast
import builtins
import re
import unittest
import warnings
from functools import lru_cache
from pathlib import Path

PACKAGE = Path(__file__).resolve().parent.parent / "shapelang"
FILES = sorted(PACKAGE.rglob("*.py"))
INTERFACE = {
    "shapes": "is_shape variables_of count_nodes put_in normal instance_by common meeting",
    "schemes": "Scheme",
    "equations": "has_solution solve solution_holds",
    "clashes": "is_clash is_repair find_clash find_repair all_clashes all_repairs fewest_repair",
    "papers": "chain_shows paper_of paper_holds",
    "programs": "datas_error expression_error count_places part_at replaced binder_of",
    "inferring": "groups_of infer derive derivation_holds hole_scheme clashes_of repairs_of",
    "values": "is_value is_form form_of scheme_of",
    "counting": "count_forms form_at index_of each_form",
    "rows": "rows_error meets first_row bound_by",
    "trees": "tree_of tree_holds Tree",
    "missing": "missing is_missing idle_rows witness count_met",
    "judging": "matches_of",
    "books": "book_error verdicts uses_of changed anew",
    "running": "run run_word trace each_step",
    "codes": "code_error compiled run_code room_of",
    "descents": "calls_of joined find_descent descent_holds ends",
    "sessions": "Session StrictSession LoggedSession LoggedStrictSession",
    "consoles": "Console",
    "datas": "is_known makers_of parts_of least_form empty_paper empty_holds",
    "readers": "parse_shape parse_pattern parse_expression parse_data parse_definition parse_book",
    "writers": "shape_text pattern_text expression_text data_text definition_text book_text",
}
METHODS = {
    "Scheme": "__init__ shape read __call__ __contains__ __or__ __and__ __len__ __eq__ __str__",
    "Tree": "__init__ shown __call__ __contains__ __len__ __eq__ __str__",
    "Session": "__init__ read is_edit define change remove undo run version book inferred state edits history __call__ "
               "__getitem__ __contains__ __iter__ __len__ __eq__ __str__",
    "StrictSession": "__init__",
    "LoggedSession": "__init__ log",
    "LoggedStrictSession": "__init__",
    "Console": "__init__ execute __call__",
}
BUILTINS = set("""len range enumerate zip min max sum abs sorted reversed int str bool bytes list tuple dict set frozenset
isinstance ord repr any all divmod iter next map Exception ValueError TypeError KeyError IndexError LookupError
ZeroDivisionError ArithmeticError OverflowError RuntimeError NotImplementedError AttributeError StopIteration
NotImplemented property staticmethod classmethod super object""".split())
NEVER = set("""register mro elements open input law version_info with_traceback add_note attrgetter breakpoint builtins
compile copyright credits delattr dir eval exec exit gc getattr globals hasattr help id importlib license locals
methodcaller os quit setattr type vars sys""".split())
WORDS = set("""type typing typing_extensions enum Enum IntEnum StrEnum Flag IntFlag Generic Protocol ABC ABCMeta
namedtuple NamedTuple TypedDict TYPE_CHECKING abstractmethod metaclass Meta""".split())
BUILTIN_METHODS = set("""append clear copy count endswith extend find get index insert isalnum isalpha isdigit islower
isspace isupper items join keys ljust lower lstrip partition pop remove replace reverse rfind rjust rpartition rsplit
rstrip setdefault split splitlines startswith strip update upper values zfill bit_length isascii""".split())
DUNDERS = set("""__init__ __eq__ __repr__ __str__ __len__ __call__ __iter__ __contains__ __or__ __and__
__getitem__""".split())
PURE_METHODS = DUNDERS - {"__init__", "__call__"}
CHANGING = set("append clear extend insert pop remove reverse setdefault update".split())
STATEMENTS = (ast.FunctionDef, ast.ClassDef, ast.Assign, ast.AugAssign, ast.If, ast.While, ast.For, ast.Return, ast.Break,
              ast.Continue, ast.Pass, ast.Raise, ast.Assert, ast.Delete, ast.Nonlocal, ast.Try, ast.Expr, ast.ImportFrom)


@lru_cache(maxsize=None)
def parsed(file):
    return ast.parse(file.read_text(encoding="ascii"), filename=str(file))


def nodes(file, *kinds):
    return [node for node in ast.walk(parsed(file)) if isinstance(node, kinds)]


def bound_names(tree):
    """Every name that a file binds, except methods and attributes."""
    names = []
    for node in ast.walk(tree):
        if isinstance(node, ast.Name) and isinstance(node.ctx, ast.Store):
            names.append(node.id)
        elif isinstance(node, ast.arg):
            names.append(node.arg)
        elif isinstance(node, (ast.FunctionDef, ast.ClassDef)):
            names.append(node.name)
        elif isinstance(node, ast.alias):
            names.append(node.name)
    return names


def method_names(tree):
    return [part.name for node in tree.body if isinstance(node, ast.ClassDef)
            for part in node.body if isinstance(part, ast.FunctionDef)]


def is_plain(value, functions):
    if isinstance(value, ast.Constant):
        return True
    if isinstance(value, ast.UnaryOp):
        return isinstance(value.op, ast.USub) and isinstance(value.operand, ast.Constant)
    if isinstance(value, (ast.Tuple, ast.List)):
        return all(is_plain(item, functions) for item in value.elts)
    if isinstance(value, ast.Dict):
        return all(is_plain(item, functions) for item in [*value.keys, *value.values])
    return isinstance(value, ast.Name) and value.id in functions


def run_by_operators():
    """The functions that operators, properties and the like run, each with the names that it calls."""
    functions, waiting = {}, []
    for file in FILES:
        for node in parsed(file).body:
            if isinstance(node, ast.FunctionDef):
                functions[node.name] = node
            if isinstance(node, ast.ClassDef):
                methods = [part for part in node.body if isinstance(part, ast.FunctionDef)]
                waiting += [part for part in methods if part.name in PURE_METHODS or is_property(part)]
                functions.update({node.name: part for part in methods if part.name == "__init__"})
    found = []
    while waiting:
        node = waiting.pop()
        if node not in found:
            found.append(node)
            called = [part.func.id for part in ast.walk(node)
                      if isinstance(part, ast.Call) and isinstance(part.func, ast.Name)]
            waiting += [functions[name] for name in called if name in functions]
    return found


def is_property(method):
    return [part.id for part in method.decorator_list] == ["property"]


def own_containers(function):
    """The local names that are assigned lists and dicts made in the function, and nothing else."""
    made, other = set(), {part.arg for part in function.args.args}
    for node in ast.walk(function):
        if isinstance(node, ast.Assign):
            fresh = isinstance(node.value, (ast.List, ast.Dict, ast.ListComp)) or (
                isinstance(node.value, ast.Call) and isinstance(node.value.func, ast.Name)
                and node.value.func.id in ("list", "dict", "sorted"))
            names = [part.id for target in node.targets for part in ast.walk(target)
                     if isinstance(part, ast.Name) and isinstance(part.ctx, ast.Store)]
            (made if fresh else other).update(names)
        if isinstance(node, ast.For):
            other.update(part.id for part in ast.walk(node.target) if isinstance(part, ast.Name))
    return made - other


def is_iterated_call(call):
    """Whether this calls what must be iterated on the spot."""
    if isinstance(call.func, ast.Name):
        return call.func.id in ("range", "zip", "enumerate", "reversed", "map")
    return isinstance(call.func, ast.Attribute) and call.func.attr in ("items", "keys", "values")


def is_iterating(parent, node):
    """Whether the parent iterates over the node at once, or asks what may be asked of a range."""
    if isinstance(parent, (ast.For, ast.comprehension)):
        return parent.iter is node
    if isinstance(parent, ast.Compare):
        return isinstance(parent.ops[0], (ast.In, ast.NotIn)) and parent.comparators == [node]
    if isinstance(parent, ast.Subscript):
        return parent.value is node
    iterating = "list tuple dict sorted sum any all enumerate zip min max len reversed".split()
    return isinstance(parent, ast.Call) and isinstance(parent.func, ast.Name) and parent.func.id in iterating


class Operators(unittest.TestCase):
    def test_what_operators_run_changes_only_what_it_made(self):
        found = run_by_operators()
        self.assertTrue({"__or__", "__and__", "meeting", "united", "shape_text"} <= {node.name for node in found})
        for function in found:
            own = own_containers(function)
            for node in ast.walk(function):
                if isinstance(node, ast.Call) and isinstance(node.func, ast.Attribute):
                    # A method of what the function is handed or holds is a call of it, too.
                    if not isinstance(node.func.value, ast.Constant):
                        self.assertIn(ast.unparse(node.func.value), own, function.name)
                if isinstance(node, ast.Call) and isinstance(node.func, ast.Name):
                    self.assertNotIn(node.func.id, [part.arg for part in function.args.args])
                if isinstance(node, ast.Subscript) and isinstance(node.ctx, (ast.Store, ast.Del)):
                    self.assertIn(ast.unparse(node.value), own, function.name)
                if isinstance(node, ast.Attribute) and isinstance(node.ctx, (ast.Store, ast.Del)):
                    self.assertEqual(function.name, "__init__")
                if isinstance(node, ast.AugAssign):
                    self.assertIsInstance(node.target, ast.Name)
                    self.assertIsInstance(node.value, ast.Constant)


class Language(unittest.TestCase):
    def test_files(self):
        self.assertTrue((PACKAGE / "__init__.py").is_file())
        for path in PACKAGE.rglob("*"):
            if "__pycache__" not in path.parts:
                self.assertRegex(path.name, r"^(__init__|[a-z][a-z0-9_]*)\.py$")
        for file in FILES:
            text = file.read_text(encoding="utf-8")
            self.assertRegex(text, r"\A[ -~\n]*\Z")
            self.assertLessEqual(text.count("\n"), 399)
            self.assertLessEqual(max(map(len, text.split("\n"))), 120)
            with warnings.catch_warnings():
                warnings.simplefilter("error")
                compile(text, file.name, "exec")

    def test_functions_are_short_and_undecorated(self):
        for file in FILES:
            for node in nodes(file, ast.FunctionDef, ast.ClassDef):
                if isinstance(node, ast.FunctionDef):
                    self.assertLessEqual(node.end_lineno - node.lineno + 1, 40, node.name)
                    self.assertIsNone(node.returns)
                self.assertLessEqual({part.id for part in node.decorator_list}, {"property", "staticmethod", "classmethod"})

    def test_imports(self):
        uses = {}
        for file in FILES:
            tree = parsed(file)
            behind = [node for node in tree.body if not isinstance(node, (ast.Expr, ast.ImportFrom))]
            uses[file.stem] = []
            for node in nodes(file, ast.Import, ast.ImportFrom):
                self.assertIsInstance(node, ast.ImportFrom)
                self.assertIn(node, tree.body)
                self.assertTrue(all(node.lineno < other.lineno for other in behind))
                self.assertEqual(node.level, 0)
                package, name = node.module.split(".")
                self.assertEqual(package, "shapelang")
                uses[file.stem].append(name)
                home = parsed(PACKAGE / f"{name}.py")
                defined = [part.name for part in home.body if isinstance(part, (ast.FunctionDef, ast.ClassDef))]
                defined += [part.targets[0].id for part in home.body if isinstance(part, ast.Assign)]
                for alias in node.names:
                    self.assertIsNone(alias.asname)
                    self.assertIn(alias.name, defined)
        while uses:
            free = [name for name, others in uses.items() if not any(other in uses for other in others)]
            self.assertTrue(free, uses)
            for name in free:
                del uses[name]

    def test_every_import_is_used(self):
        for file in FILES:
            read = [node.id for node in nodes(file, ast.Name)]
            for node in nodes(file, ast.ImportFrom):
                for alias in node.names:
                    self.assertIn(alias.name, read)

    def test_module_level(self):
        for file in FILES:
            functions = []
            for at, node in enumerate(parsed(file).body):
                if isinstance(node, ast.FunctionDef):
                    functions.append(node.name)
                elif isinstance(node, ast.Assign):
                    self.assertTrue(len(node.targets) == 1 and isinstance(node.targets[0], ast.Name))
                    self.assertTrue(is_plain(node.value, functions), ast.unparse(node))
                elif isinstance(node, ast.Expr):
                    self.assertEqual(at, 0)
                else:
                    self.assertIsInstance(node, (ast.ClassDef, ast.ImportFrom))

    def test_statements_and_expressions(self):
        for file in FILES:
            for node in nodes(file, ast.stmt):
                self.assertIsInstance(node, STATEMENTS)
            banned = (ast.GeneratorExp, ast.SetComp, ast.Set, ast.Div, ast.Await, ast.YieldFrom, ast.AnnAssign)
            self.assertEqual([ast.unparse(node) for node in nodes(file, *banned) if isinstance(node, ast.expr)], [])
            self.assertEqual(nodes(file, ast.Div), [])
            for node in nodes(file, ast.BinOp):
                if isinstance(node.op, ast.Pow):
                    self.assertIsInstance(node.right, ast.Constant)
            for node in nodes(file, ast.Constant):
                self.assertNotIsInstance(node.value, (float, complex, bytes))
                if isinstance(node.value, str):
                    self.assertNotIn("%", node.value)
            for node in nodes(file, ast.Compare):
                if any(isinstance(sign, (ast.Is, ast.IsNot)) for sign in node.ops):
                    self.assertIn(ast.unparse(node.comparators[0]), ("None", "True", "False"))

    def test_generators(self):
        for file in FILES:
            whole = [node.value for node in nodes(file, ast.Expr)]
            for node in nodes(file, ast.Yield):
                self.assertIn(node, whole)
            for node in nodes(file, ast.FunctionDef):
                if any(isinstance(part, ast.Yield) for part in ast.walk(node)):
                    self.assertFalse(node.name.startswith("__") or node.decorator_list)
                    inside = [part for part in ast.walk(node) if isinstance(part, (ast.Try, ast.With))]
                    self.assertEqual(inside, [])
                    self.assertTrue(all(part.value is None for part in ast.walk(node) if isinstance(part, ast.Return)))

    def test_loops_change_nothing_that_they_go_over(self):
        for file in FILES:
            for loop in nodes(file, ast.For):
                over = {ast.unparse(part) for part in ast.walk(loop.iter) if isinstance(part, (ast.Name, ast.Attribute))}
                # An attribute and a local name that are called alike are not told apart.
                over |= {part.attr for part in ast.walk(loop.iter) if isinstance(part, ast.Attribute)}
                copied = isinstance(loop.iter, ast.Call) and ast.unparse(loop.iter.func) in ("list", "range", "sorted")
                if copied or isinstance(loop.iter, ast.Subscript) and isinstance(loop.iter.slice, ast.Slice):
                    continue
                for node in [part for row in loop.body for part in ast.walk(row)]:
                    if isinstance(node, ast.Call) and isinstance(node.func, ast.Attribute) and node.func.attr in CHANGING:
                        self.assertNotIn(ast.unparse(node.func.value), over)
                    if isinstance(node, ast.Subscript) and isinstance(node.ctx, (ast.Store, ast.Del)):
                        self.assertNotIn(ast.unparse(node.value), over)

    def test_ranges_and_the_like_are_iterated_on_the_spot_or_kept(self):
        """L23: a call of one stands where it is iterated, or is kept in a local variable that is only iterated."""
        for file in FILES:
            for function in nodes(file, ast.FunctionDef):
                whole = list(ast.walk(function))
                parents = {id(part): node for node in whole for part in ast.iter_child_nodes(node)}
                for node in whole:
                    if not (isinstance(node, ast.Call) and is_iterated_call(node)):
                        continue
                    parent = parents[id(node)]
                    if isinstance(parent, ast.Assign) and isinstance(parent.targets[0], ast.Name):
                        name = parent.targets[0].id
                        uses = [part for part in whole if isinstance(part, ast.Name) and part.id == name]
                        self.assertEqual(len([part for part in uses if isinstance(part.ctx, ast.Store)]), 1, name)
                        for part in uses:
                            if isinstance(part.ctx, ast.Load):
                                self.assertTrue(is_iterating(parents[id(part)], part), f"{file.name} {part.lineno}")
                    else:
                        self.assertTrue(is_iterating(parent, node), f"{file.name} {node.lineno}")

    def test_the_look_at_ranges_sees_what_is_wrong(self):
        for text, right in (("list(range(3))", True), ("f(range(3))", False), ("(1, *range(3))", False), ("[range(3)]", False),
                            ("[x for x in range(3)]", True), ("x in range(3)", True), ("range(3) == y", False), ("set(range(3))", False)):
            tree = ast.parse(text)
            parents = {id(part): node for node in ast.walk(tree) for part in ast.iter_child_nodes(node)}
            call = next(node for node in ast.walk(tree) if isinstance(node, ast.Call) and is_iterated_call(node))
            self.assertEqual(is_iterating(parents[id(call)], call), right, text)

    def test_comprehensions_within_others_have_names_of_their_own(self):
        for file in FILES:
            for outer in nodes(file, ast.ListComp, ast.DictComp):
                names = {part.id for made in outer.generators for part in ast.walk(made.target) if isinstance(part, ast.Name)}
                for inner in ast.walk(outer):
                    if isinstance(inner, (ast.ListComp, ast.DictComp)) and inner is not outer:
                        own = {part.id for made in inner.generators for part in ast.walk(made.target) if isinstance(part, ast.Name)}
                        self.assertEqual(names & own, set(), ast.unparse(outer))

    def test_names(self):
        for file in FILES:
            tree = parsed(file)
            bound = bound_names(tree)
            free = [name for name in bound if not (name in method_names(tree) and name.startswith("__"))]
            for name in free:
                self.assertRegex(name, r"^(_|_?[A-Za-z][A-Za-z0-9_]*)$")
                self.assertNotIn(name, NEVER)
                self.assertNotIn(name, set(dir(builtins)))
            for name in method_names(tree):
                self.assertTrue(name in DUNDERS or not name.startswith("__"), name)
                self.assertNotIn(name, NEVER)
            for node in nodes(file, ast.Name):
                if isinstance(node.ctx, ast.Load) and node.id in dir(builtins):
                    self.assertIn(node.id, BUILTINS)
            imported = [alias.name for node in nodes(file, ast.ImportFrom) for alias in node.names]
            classes = [node.name for node in nodes(file, ast.ClassDef)]
            stored = [node.id for node in nodes(file, ast.Name) if isinstance(node.ctx, ast.Store)]
            stored += [node.arg for node in nodes(file, ast.arg)]
            self.assertEqual(set(stored) & set([*imported, *classes]), set())

    def test_words(self):
        for file in FILES:
            tree = ast.parse(file.read_text(encoding="ascii"))
            for node in ast.walk(tree):
                if isinstance(node, (ast.Module, ast.FunctionDef, ast.ClassDef)) and ast.get_docstring(node) is not None:
                    node.body = node.body[1:] or [ast.Pass()]
            self.assertEqual(set(re.findall(r"[A-Za-z_]+", ast.unparse(tree))) & WORDS, set())

    def test_methods_that_are_called(self):
        own = [name for file in FILES for name in method_names(parsed(file))]
        for file in FILES:
            for node in nodes(file, ast.Call):
                if isinstance(node.func, ast.Attribute):
                    self.assertIn(node.func.attr, BUILTIN_METHODS | set(own))
                else:
                    self.assertIsInstance(node.func, ast.Name)
                for part in node.args:
                    if isinstance(part, ast.Starred):
                        self.assertIsInstance(part.value, (ast.Name, ast.Attribute))

    def test_methods_are_called_where_they_stand(self):
        methods, stored = set(), set()
        for file in FILES:
            for node in nodes(file, ast.ClassDef):
                methods |= {part.name for part in node.body if isinstance(part, ast.FunctionDef) and not is_property(part)}
            stored |= {node.attr for node in nodes(file, ast.Attribute) if isinstance(node.ctx, ast.Store)}
        self.assertEqual(methods & stored, set())
        for file in FILES:
            called = [node.func for node in nodes(file, ast.Call)]
            for node in nodes(file, ast.Attribute):
                if node.attr in methods and node not in called:
                    self.fail(f"{file.name} {node.lineno}: {node.attr}")

    def test_names_of_methods_and_attributes(self):
        """L26: what strings, numbers, lists, dicts, sets and bytes have is free but for a few names."""
        builtin = {name for kind in (str, int, list, dict, set, bytes) for name in dir(kind)}
        first = BUILTIN_METHODS - {"isascii"}
        for file in FILES:
            for node in nodes(file, ast.Attribute):
                if isinstance(node.ctx, ast.Store) and node.attr in builtin:
                    self.assertIn(node.attr, "count index title find get join lower upper split strip copy add".split(), file.name)
            for name in method_names(parsed(file)):
                if name in builtin and not name.startswith("__"):
                    self.assertIn(name, first | {"add", "discard"}, file.name)

    def test_properties_and_attributes(self):
        methods, properties, values, stored = set(), set(), set(), set()
        for file in FILES:
            for node in nodes(file, ast.ClassDef):
                for part in node.body:
                    if isinstance(part, ast.FunctionDef):
                        (properties if is_property(part) else methods).add(part.name)
                    elif isinstance(part, ast.Assign):
                        self.assertIsInstance(part.value, ast.Constant)
                        values.add(part.targets[0].id)
            stored |= {node.attr for node in nodes(file, ast.Attribute) if isinstance(node.ctx, ast.Store)}
        self.assertEqual(properties & (methods | values | stored), set())
        self.assertEqual(values & (methods | stored), set())
        for file in FILES:
            for node in nodes(file, ast.Attribute):
                if isinstance(node.ctx, ast.Load) and node.attr not in BUILTIN_METHODS | {"__init__", "__class__", "__name__"}:
                    self.assertIn(node.attr, methods | properties | values | stored, file.name)

    def test_names_of_caught_errors_stand_alone(self):
        for file in FILES:
            for function in nodes(file, ast.FunctionDef):
                for handler in [node for node in ast.walk(function) if isinstance(node, ast.ExceptHandler)]:
                    self.assertIsNotNone(handler.type)
                    others = [node.id for node in ast.walk(function) if isinstance(node, ast.Name) and isinstance(node.ctx, ast.Store)]
                    self.assertNotIn(handler.name, [*others, *[part.arg for part in function.args.args]])

    def test_finally_is_simple(self):
        for file in FILES:
            for node in nodes(file, ast.Try):
                for part in [inner for row in node.finalbody for inner in ast.walk(row)]:
                    self.assertIsInstance(part, (ast.Assign, ast.If, ast.Name, ast.Attribute, ast.Constant, ast.Compare, ast.Is, ast.Load, ast.Store))

    def test_calls_of_methods_named_like_builtin_ones_have_no_keywords(self):
        for file in FILES:
            for node in nodes(file, ast.Call):
                if isinstance(node.func, ast.Attribute) and node.func.attr in BUILTIN_METHODS:
                    self.assertEqual(node.keywords, [], file.name)

    def test_sets_stand_in_sorted_alone(self):
        for file in FILES:
            inside = [part for node in nodes(file, ast.Call) if ast.unparse(node.func) == "sorted" for part in node.args[:1]]
            for node in nodes(file, ast.Call):
                if ast.unparse(node.func) == "set":
                    self.assertIn(node, inside)
            called = [node.func.id for node in nodes(file, ast.Call) if isinstance(node.func, ast.Name)]
            self.assertEqual({"frozenset", "iter", "next", "map"} & set(called), set())

    def test_the_interface_stands_where_it_is_listed(self):
        for name, names in INTERFACE.items():
            tree = parsed(PACKAGE / f"{name}.py")
            defined = [node.name for node in tree.body if isinstance(node, (ast.FunctionDef, ast.ClassDef))]
            self.assertLessEqual(set(names.split()), set(defined))
            for node in tree.body:
                if isinstance(node, ast.ClassDef) and node.name in METHODS:
                    methods = {part.name for part in node.body if isinstance(part, ast.FunctionDef)}
                    self.assertLessEqual(set(METHODS[node.name].split()), methods)


if __name__ == "__main__":
    unittest.main()
