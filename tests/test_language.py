"""The code of the package keeps to the rules of LANGUAGE.md, as far as they are easily seen.

The numbers in the messages are those of the rules.
"""

import ast
import builtins
import pathlib
import re
import unittest
import warnings

PACKAGE = pathlib.Path(__file__).resolve().parent.parent / "surespan"
FILES = sorted(PACKAGE.rglob("*.py"))
TREES = {path.stem: ast.parse(path.read_text()) for path in FILES}

BUILTINS = set(
    "len range enumerate zip min max sum abs sorted reversed int str bool list tuple dict set isinstance ord repr any all"
    " divmod iter next super map property staticmethod Exception ValueError KeyError IndexError LookupError"
    " ZeroDivisionError NotImplemented".split()
)
METHODS = set(
    "append clear copy count endswith extend find get index insert isalnum isalpha isdigit islower isspace isupper items"
    " join keys ljust lower lstrip partition pop remove replace reverse rfind rjust rpartition rsplit rstrip setdefault"
    " split splitlines startswith strip update upper values zfill bit_length add discard".split()
)
SPECIAL_METHODS = set(
    "__init__ __eq__ __repr__ __str__ __len__ __enter__ __exit__ __call__ __iter__ __lt__ __le__ __gt__ __ge__ __ne__"
    " __add__ __sub__ __mul__ __and__ __or__ __xor__ __neg__ __invert__ __bool__ __contains__ __getitem__".split()
)
FORBIDDEN_WORDS = set(
    "type typing typing_extensions enum Enum IntEnum StrEnum Flag IntFlag Generic Protocol ABC ABCMeta namedtuple"
    " NamedTuple TypedDict TYPE_CHECKING abstractmethod".split()
)
FORBIDDEN_NAMES = set("register mro elements open input law version_info with_traceback add_note".split())
FORBIDDEN_NODES = (
    ast.AsyncFunctionDef, ast.AsyncFor, ast.AsyncWith, ast.Await, ast.Global, ast.Div, ast.MatMult, ast.GeneratorExp,
    ast.NamedExpr,
)
INTERFACE = {
    "errors": [
        "SpanError", "PatternFault", "TemplateFault", "BadTree", "UnknownGroup", "NotRegular", "NotPlain",
        "StreamClosed", "OutOfSteps", "TooManyStates", "TooManyAnswers", "NoSuchText",
    ],
    "alphabet": ["rank", "precedes", "next_text", "texts_up_to"],
    "signsets": ["SignSet"],
    "cells": ["cells", "cell_of", "least_signs"],
    "trees": [
        "check_tree", "children", "paths", "node_at", "with_node", "is_regular", "is_plain", "group_names",
    ],
    "measures": ["size", "depth", "weight", "length_bounds", "first_signs", "needed_signs"],
    "writing": ["write_set", "write_pattern"],
    "reading": ["read_pattern"],
    "meaning": ["edge_holds", "outcomes", "first_way", "first_answer", "accepts"],
    "steps": ["compile_steps"],
    "walking": ["walk_way", "walk_answer", "walk_cost", "each_way"],
    "derivations": ["derivations", "derive"],
    "replaying": ["replay", "earlier"],
    "charts": ["chart_of"],
    "looktables": ["look_table"],
    "lanes": ["lane_lists", "lane_way", "lane_answer"],
    "tables": ["Table"],
    "residuals": ["Residual", "residual_answer"],
    "treeafter": ["tree_after"],
    "mirroring": ["mirror", "strip_groups"],
    "partings": ["parting", "parting_from"],
    "acceptance": ["least_accepted", "least_refused", "least_answered", "outside", "shared"],
    "rules": ["winner", "winning_text"],
    "exchanges": ["end_list", "list_parting"],
    "machines": ["Machine"],
    "leastmachine": ["minimized", "least_machine"],
    "machineops": ["opposite", "both", "either", "without", "reach_text", "part_text"],
    "machinetree": ["tree_of"],
    "machinejoins": ["joined", "starred", "mirrored", "beginnings", "quotient"],
    "nearest": ["nearest", "machine_within"],
    "waycounts": ["ways_row", "whole_ways"],
    "twofold": ["twofold"],
    "growth": ["growth", "pump"],
    "textcounts": ["count_texts", "text_at", "number_of", "accepted_texts", "length_cycle"],
    "rewriting": ["simplify", "simplify_steps"],
    "answers": ["Answer"],
    "scanning": ["find", "scan"],
    "templates": ["read_template", "write_template", "fill"],
    "replacing": ["replace_all"],
    "splitting": ["split_text"],
    "streams": ["Stream", "drain"],
    "replacestreams": ["ReplaceStream"],
}
CLASS_METHODS = {
    "SignSet": [
        "__init__", "between", "members", "least", "ranges", "__or__", "__and__", "__sub__", "__invert__",
        "__contains__", "__len__", "__iter__", "__eq__", "within",
    ],
    "Table": ["__init__", "answer", "state_after", "follow", "complete", "states", "division"],
    "Residual": ["__init__", "after", "answer", "length"],
    "Machine": ["__init__", "accepts", "state_after", "__len__", "__eq__"],
    "Answer": ["__init__", "whole", "__getitem__", "__contains__", "__len__", "__iter__", "__eq__", "span"],
    "Stream": ["__init__", "feed", "finish", "doubt", "closed", "told", "__enter__", "__exit__"],
    "ReplaceStream": ["__init__", "feed", "finish"],
}


def nodes_of(kind):
    for stem, tree in TREES.items():
        for node in ast.walk(tree):
            if isinstance(node, kind):
                yield stem, node


def defined(tree):
    """Return the names that a module binds itself, not by an import."""
    names = []
    for node in tree.body:
        if isinstance(node, (ast.FunctionDef, ast.ClassDef)):
            names.append(node.name)
        elif isinstance(node, ast.Assign):
            names.extend(target.id for target in node.targets)
    return names


def imports(tree):
    return [node for node in tree.body if isinstance(node, ast.ImportFrom)]


def bound_in(function):
    """Return the names of the parameters and the local variables of a function."""
    names = [arg.arg for node in ast.walk(function) if isinstance(node, ast.arguments)
             for arg in node.posonlyargs + node.args + node.kwonlyargs]
    return names + [n.id for n in ast.walk(function) if isinstance(n, ast.Name) and not isinstance(n.ctx, ast.Load)]


class TextTest(unittest.TestCase):
    def test_the_folder_holds_plain_files_only(self):
        for path in PACKAGE.rglob("*"):
            if "__pycache__" not in path.parts:
                self.assertTrue(path.suffix == ".py" and path.parent == PACKAGE, "L1 " + str(path))
                self.assertRegex(path.stem, "^(__init__|[a-z][a-z0-9_]*)$", "L14")
                self.assertFalse(path.stem in vars(builtins), "L14 " + path.stem)

    def test_sizes_and_characters(self):
        for path in FILES:
            text = path.read_text()
            lines = text.split("\n")
            self.assertLess(len(lines), 400, "L10 " + path.name)
            for number, line in enumerate(lines, 1):
                place = "{}:{}".format(path.name, number)
                self.assertLessEqual(len(line), 120, "L10 " + place)
                self.assertTrue(all(" " <= sign <= "~" for sign in line), "L14 " + place)
        for stem, node in nodes_of(ast.FunctionDef):
            self.assertLessEqual(node.end_lineno - node.lineno + 1, 40, "L10 " + stem + "." + node.name)

    def test_no_warnings(self):
        for path in FILES:
            with warnings.catch_warnings():
                warnings.simplefilter("error")
                compile(path.read_text(), str(path), "exec")

    def test_strings(self):
        docstrings = [
            node.body[0].value for kind in (ast.Module, ast.ClassDef, ast.FunctionDef) for _, node in nodes_of(kind)
            if node.body and isinstance(node.body[0], ast.Expr)
        ]
        for stem, node in nodes_of(ast.Constant):
            place = "{}:{}".format(stem, node.lineno)
            self.assertNotIsInstance(node.value, (float, complex), "L7 " + place)
            if isinstance(node.value, str) and node not in docstrings:
                self.assertNotIn("%", node.value, "L27 " + place)
                self.assertTrue(set(re.findall(r"\w+", node.value)).isdisjoint(FORBIDDEN_WORDS), "L17 " + place)


class ModuleTest(unittest.TestCase):
    def test_module_level(self):
        for stem, tree in TREES.items():
            for node in tree.body[1:]:
                allowed = (ast.ImportFrom, ast.FunctionDef, ast.ClassDef, ast.Assign)
                self.assertIsInstance(node, allowed, "L3 {}:{}".format(stem, node.lineno))
                if isinstance(node, ast.Assign):
                    self.assertTrue(len(node.targets) == 1 and isinstance(node.targets[0], ast.Name), "L3 " + stem)
                    ast.literal_eval(node.value)
                    self.assertFalse(holds_a_list_or_dict(node.value), "L15 {}:{}".format(stem, node.lineno))
            self.assertIsInstance(tree.body[0].value.value, str, stem)
            names = defined(tree) + [alias.name for node in imports(tree) for alias in node.names]
            self.assertEqual(len(names), len(set(names)), "L15 " + stem)

    def test_imports_name_the_file_that_defines_the_name(self):
        for stem, node in nodes_of((ast.Import, ast.ImportFrom)):
            self.assertIsInstance(node, ast.ImportFrom, "L16 " + stem)
            self.assertTrue(node.module.startswith("surespan.") and node.level == 0, "L2 " + stem)
            for alias in node.names:
                self.assertIsNone(alias.asname, "L16 " + stem)
                self.assertIn(alias.name, defined(TREES[node.module.split(".")[1]]), "L16 " + stem)

    def test_imports_are_used_and_have_no_cycles(self):
        below = {stem: [node.module.split(".")[1] for node in imports(tree)] for stem, tree in TREES.items()}
        while below:
            free = [stem for stem in below if not any(other in below for other in below[stem])]
            self.assertTrue(free, "L16 " + str(sorted(below)))
            below = {stem: below[stem] for stem in below if stem not in free}
        for stem, tree in TREES.items():
            read = {node.id for node in ast.walk(tree) if isinstance(node, ast.Name)}
            for node in imports(tree):
                self.assertLessEqual({alias.name for alias in node.names}, read, stem)

    def test_the_interface_stands_in_its_files(self):
        for stem, names in INTERFACE.items():
            found = [n.name for n in TREES[stem].body if isinstance(n, (ast.FunctionDef, ast.ClassDef))]
            self.assertLessEqual(set(names), set(found), "L16 " + stem)
        for stem, node in nodes_of(ast.ClassDef):
            found = {method.name for method in node.body if isinstance(method, ast.FunctionDef)}
            self.assertLessEqual(set(CLASS_METHODS.get(node.name, [])), found, "L5 " + node.name)


class CodeTest(unittest.TestCase):
    def test_statements_and_expressions(self):
        for stem, node in nodes_of(FORBIDDEN_NODES):
            self.fail("L6 or L7 {}:{} {}".format(stem, getattr(node, "lineno", "?"), type(node).__name__))
        for stem, node in nodes_of((ast.Set, ast.SetComp)):
            self.fail("L24 {}:{}".format(stem, node.lineno))
        for stem, node in nodes_of(ast.Compare):
            for operator, right in zip(node.ops, node.comparators):
                if isinstance(operator, (ast.Is, ast.IsNot)):
                    self.assertIsInstance(right, ast.Constant, "L20 {}:{}".format(stem, node.lineno))

    def test_lambdas_on_one_line_have_different_parameters(self):
        met = set()
        for stem, node in nodes_of(ast.Lambda):
            key = (stem, node.lineno, tuple(arg.arg for arg in node.args.args))
            self.assertNotIn(key, met, "L13")
            met.add(key)

    def test_decorators_and_special_methods(self):
        for stem, node in nodes_of(ast.FunctionDef):
            written = [ast.unparse(decorator) for decorator in node.decorator_list]
            self.assertIn(written, [[], ["property"], ["staticmethod"], ["classmethod"]], "L5 " + stem)
            if node.name.startswith("__"):
                self.assertIn(node.name, SPECIAL_METHODS, "L5 " + stem)

    def test_builtins(self):
        for stem, tree in TREES.items():
            own = set(defined(tree)) | {alias.name for node in imports(tree) for alias in node.names}
            for node in ast.walk(tree):
                if isinstance(node, ast.Name) and node.id in vars(builtins):
                    self.assertIn(node.id, BUILTINS, "L8 {}:{}".format(stem, node.lineno))
                if isinstance(node, (ast.FunctionDef, ast.ClassDef)):
                    self.assertFalse(node.name in vars(builtins), "L15 {}.{}".format(stem, node.name))
                if isinstance(node, ast.FunctionDef):
                    for name in bound_in(node):
                        self.assertFalse(name in vars(builtins), "L15 {}.{} {}".format(stem, node.name, name))
                        self.assertNotIn(name, own, "L15 {}.{}".format(stem, node.name))

    def test_names(self):
        for stem, tree in TREES.items():
            for node in ast.walk(tree):
                for field in ("id", "name", "attr", "arg"):
                    name = getattr(node, field, None)
                    if isinstance(name, str):
                        self.assertNotIn(name, FORBIDDEN_NAMES | FORBIDDEN_WORDS, "L17 " + stem)
                        self.assertRegex(name, "^(__[a-z]+__|_?[A-Za-z][A-Za-z0-9_]*|_)$", "L12 " + stem)

    def test_methods(self):
        own = {node.name for _, node in nodes_of(ast.FunctionDef)}
        for stem, node in nodes_of(ast.Call):
            if isinstance(node.func, ast.Attribute):
                place = "L25 {}:{} {}".format(stem, node.lineno, node.func.attr)
                self.assertIn(node.func.attr, METHODS | own, place)

    def test_sets_stand_only_in_sorted_and_len(self):
        for stem, tree in TREES.items():
            inner = [
                arg for node in ast.walk(tree)
                if isinstance(node, ast.Call) and isinstance(node.func, ast.Name) and node.func.id in ("sorted", "len")
                for arg in node.args
            ]
            for node in ast.walk(tree):
                if isinstance(node, ast.Call) and isinstance(node.func, ast.Name) and node.func.id == "set":
                    self.assertIn(node, inner, "L24 {}:{}".format(stem, node.lineno))

    def test_attributes_are_assigned_somewhere(self):
        known = {node.name for _, node in nodes_of(ast.FunctionDef)} | METHODS
        known |= {node.attr for _, node in nodes_of(ast.Attribute) if isinstance(node.ctx, ast.Store)}
        for stem, node in nodes_of(ast.Attribute):
            self.assertIn(node.attr, known, "L18 {}:{}".format(stem, node.lineno))

    def test_no_name_is_both_a_method_and_an_attribute(self):
        stored = {node.attr for _, node in nodes_of(ast.Attribute) if isinstance(node.ctx, ast.Store)}
        methods = {
            (stem, method.name) for stem, node in nodes_of(ast.ClassDef) for method in node.body
            if isinstance(method, ast.FunctionDef)
        }
        self.assertEqual([method for method in methods if method[1] in stored], [], "L18")

    def test_properties_and_operators_call_nothing_that_an_object_may_hold(self):
        stored = {node.attr for _, node in nodes_of(ast.Attribute) if isinstance(node.ctx, ast.Store)}
        self.assertIn("index", stored)
        waiting = [(stem, node, node) for stem, node in nodes_of(ast.FunctionDef) if is_read_by_signs(node)]
        self.assertTrue(waiting)
        known = []
        while waiting:
            stem, function, root = waiting.pop()
            for call in [node for node in ast.walk(function) if isinstance(node, ast.Call)]:
                place = "L5 {}.{}, for {}".format(stem, function.name, root.name)
                self.assertIsInstance(call.func, (ast.Name, ast.Attribute), place)
                called = call.func.id if isinstance(call.func, ast.Name) else call.func.attr
                self.assertNotIn(called, stored if isinstance(call.func, ast.Attribute) else bound_in(function), place)
                below = [(stem, node, root) for stem, node in own_functions(called) if node not in known]
                known.extend(node for _, node, _ in below)
                waiting.extend(below)


class LoopTest(unittest.TestCase):
    def test_ranges_zips_and_views_are_iterated_on_the_spot(self):
        for stem, tree in TREES.items():
            above = {below: node for node in ast.walk(tree) for below in ast.iter_child_nodes(node)}
            for node in ast.walk(tree):
                if is_range_or_view(node):
                    place = "L23 {}:{} {}".format(stem, node.lineno, ast.unparse(node))
                    self.assertTrue(is_iterated_by(above[node], node), place)

    def test_what_a_loop_walks_is_not_changed_in_it(self):
        for stem, function in nodes_of(ast.FunctionDef):
            groups = names_for_one_thing(function)
            for walked, rows in loops_of(function):
                names = [name for name in walked_names(walked)]
                names += [other for name in names for group in groups if name in group for other in group]
                for node in rows:
                    changed = set(changed_names(node)) & set(names)
                    self.assertFalse(changed, "L23 {}:{} {}".format(stem, node.lineno, sorted(changed)))

    def test_properties_are_not_assigned(self):
        properties = {
            node.name for _, node in nodes_of(ast.FunctionDef)
            if "property" in [ast.unparse(decorator) for decorator in node.decorator_list]
        }
        self.assertIn("told", properties)
        for stem, node in nodes_of(ast.Attribute):
            if isinstance(node.ctx, ast.Store):
                self.assertNotIn(node.attr, properties, "L5 {}:{}".format(stem, node.lineno))

    def test_an_exit_only_assigns(self):
        for stem, node in nodes_of(ast.FunctionDef):
            if node.name == "__exit__":
                self.assertEqual([arg.arg for arg in node.args.args], ["self", "kind", "value", "trace"], "L6 " + stem)
                self.assertEqual([ast.unparse(row) for row in node.body], ["self._closed = True"], "L6 " + stem)

    def test_an_iteration_is_one_statement(self):
        for stem, node in nodes_of(ast.FunctionDef):
            if node.name == "__iter__":
                self.assertRegex("".join(ast.unparse(row) for row in node.body), r"^return iter\(self\.\w+\)$", "L5 " + stem)

    def test_reversed_takes_a_copy(self):
        # Beside a class with `__getitem__`.
        for stem, node in nodes_of(ast.Call):
            if isinstance(node.func, ast.Name) and node.func.id == "reversed":
                inner = node.args[0]
                called = inner.func.id if isinstance(inner, ast.Call) and isinstance(inner.func, ast.Name) else None
                self.assertIn(called, ("list", "tuple", "sorted", "range"), "L5 {}:{}".format(stem, node.lineno))


def is_range_or_view(node):
    """Tell whether this is a call of `range`, `zip`, `enumerate`, `reversed`, `items`, `keys` or `values`."""
    if not isinstance(node, ast.Call):
        return False
    if isinstance(node.func, ast.Name):
        return node.func.id in ("range", "zip", "enumerate", "reversed")
    return isinstance(node.func, ast.Attribute) and node.func.attr in ("items", "keys", "values")


def is_iterated_by(parent, node):
    """Tell whether what stands directly around a range, a zip or a view iterates over it on the spot."""
    if isinstance(parent, (ast.For, ast.comprehension)):
        return parent.iter is node
    if isinstance(parent, ast.Compare):
        return isinstance(parent.ops[0], (ast.In, ast.NotIn))
    if not isinstance(parent, ast.Call) or not isinstance(parent.func, ast.Name) or parent.args[0] is not node:
        return False
    if parent.func.id in ("len", "reversed"):
        return getattr(node.func, "id", None) == "range"
    return parent.func.id in ("list", "tuple", "dict", "sorted", "sum", "any", "all", "enumerate", "zip", "min", "max")


def loops_of(function):
    """Return the pairs of what a loop or a comprehension of the function walks, and the list of its rows."""
    found = []
    for node in ast.walk(function):
        if isinstance(node, ast.For):
            found.append((node.iter, node.body))
        elif isinstance(node, (ast.ListComp, ast.DictComp, ast.SetComp)):
            rows = [node.key, node.value] if isinstance(node, ast.DictComp) else [node.elt]
            found.extend((inner.iter, rows) for inner in node.generators)
    return found


def walked_names(walked):
    """Return the names and fields that are walked themselves, not only a copy of them."""
    if isinstance(walked, ast.IfExp):
        return walked_names(walked.body) + walked_names(walked.orelse)
    if isinstance(walked, ast.BoolOp):
        return [name for value in walked.values for name in walked_names(value)]
    if isinstance(walked, ast.Call):
        if isinstance(walked.func, ast.Name) and walked.func.id in ("enumerate", "zip", "reversed"):
            return [name for value in walked.args for name in walked_names(value)]
        if isinstance(walked.func, ast.Attribute) and walked.func.attr in ("items", "keys", "values"):
            return walked_names(walked.func.value)
        return []
    return [ast.unparse(walked)] if isinstance(walked, (ast.Name, ast.Attribute)) else []


def names_for_one_thing(function):
    """Return the sets of names and fields that plain assignments of the function may let mean the same thing."""
    groups = []
    for node in ast.walk(function):
        if isinstance(node, ast.Assign):
            pairs = [(target, node.value) for target in node.targets]
            if isinstance(node.value, ast.Tuple) and isinstance(node.targets[0], ast.Tuple):
                pairs = list(zip(node.targets[0].elts, node.value.elts))
            for target, value in pairs:
                if isinstance(target, (ast.Name, ast.Attribute)) and isinstance(value, (ast.Name, ast.Attribute)):
                    group = {ast.unparse(target), ast.unparse(value)}
                    for other in [other for other in groups if other & group]:
                        groups.remove(other)
                        group |= other
                    groups.append(group)
    return groups


CHANGING = set("append clear extend insert pop remove reverse setdefault update add discard sort".split())


def changed_names(row):
    """Return the names and fields that a row changes: by a method, an item or `del`, also of an own method's list."""
    found = []
    for node in ast.walk(row):
        if isinstance(node, ast.Call) and isinstance(node.func, ast.Attribute) and node.func.attr in CHANGING:
            found.append(ast.unparse(node.func.value))
        elif isinstance(node, ast.Subscript) and not isinstance(node.ctx, ast.Load):
            found.append(ast.unparse(node.value))
        elif isinstance(node, ast.AugAssign):
            found.append(ast.unparse(node.target))
    return found


def holds_a_list_or_dict(value):
    """Tell whether there is a list or a dict inside of a list, a dict or a tuple that is written out."""
    return any(isinstance(node, (ast.List, ast.Dict)) for node in ast.walk(value) if node is not value)


def is_read_by_signs(function):
    """Tell whether a property, an operator or the like is defined here: what is run without a plain call."""
    decorators = [ast.unparse(decorator) for decorator in function.decorator_list]
    return "property" in decorators or function.name in SPECIAL_METHODS - {"__init__", "__enter__", "__exit__"}


def own_functions(name):
    """Return the functions and methods of the package with this name, and the constructors of such a class."""
    found = [(stem, node) for stem, node in nodes_of(ast.FunctionDef) if node.name == name]
    for stem, node in nodes_of(ast.ClassDef):
        if node.name == name:
            found.extend((stem, method) for method in node.body if getattr(method, "name", None) == "__init__")
    return found


if __name__ == "__main__":
    unittest.main()
