"""The rules of LANGUAGE.md that a test can see, and the interface, for all files of the package."""

import ast
import builtins
import keyword
import re
import unittest
from pathlib import Path

PACKAGE = Path(__file__).resolve().parent.parent / "answeredsettings"
FILES = {path.stem: path for path in sorted(PACKAGE.glob("*.py"))}
TREES = {stem: ast.parse(path.read_text(encoding="ascii")) for stem, path in FILES.items()}

BUILTINS = set(
    "len range enumerate zip min max sum abs sorted reversed int str bool bytes list tuple dict set frozenset isinstance "
    "ord repr any all divmod Exception ValueError TypeError KeyError IndexError LookupError ZeroDivisionError "
    "ArithmeticError OverflowError RuntimeError NotImplementedError iter next".split()
)
METHODS = set(
    "append clear copy count endswith extend find get index insert isalnum isalpha isdigit islower isspace isupper items "
    "join keys ljust lower lstrip partition pop remove replace reverse rfind rjust rpartition rsplit rstrip setdefault "
    "split splitlines startswith strip update upper values zfill bit_length encode decode".split()
)
DOUBLE = set("__init__ __eq__ __len__ __call__ __iter__ __getitem__ __contains__ __add__ __le__ __enter__ __exit__".split())
NOWHERE = set("register mro elements open input law version_info with_traceback add_note".split())
NO_NAMES = set(
    "attrgetter breakpoint builtins compile copyright credits delattr dir eval exec exit gc getattr globals hasattr help "
    "id importlib license locals methodcaller os quit setattr super type vars sys".split()
)
NO_WORDS = set(
    "typing typing_extensions enum Enum IntEnum StrEnum Flag IntFlag Generic Protocol ABC ABCMeta namedtuple NamedTuple "
    "TypedDict TYPE_CHECKING abstractmethod type dataclass overload contextmanager".split()
)
# What sets, generator expressions and lambdas may do hangs on many rules, so the package does without them.
NODES = (
    ast.Module, ast.ImportFrom, ast.alias, ast.FunctionDef, ast.ClassDef, ast.arguments, ast.arg, ast.Assign,
    ast.AugAssign, ast.If, ast.While, ast.For, ast.Return, ast.Break, ast.Continue, ast.Pass, ast.Raise, ast.Expr,
    ast.Yield, ast.BoolOp, ast.BinOp, ast.UnaryOp, ast.IfExp, ast.Dict, ast.ListComp, ast.DictComp, ast.comprehension,
    ast.Compare, ast.Call, ast.keyword, ast.Constant, ast.Attribute, ast.Subscript, ast.Slice, ast.Name, ast.List,
    ast.Tuple, ast.Load, ast.Store, ast.boolop, ast.operator, ast.unaryop, ast.cmpop, ast.Starred, ast.JoinedStr,
    ast.FormattedValue, ast.Try, ast.With, ast.withitem,
)
# What runs where nobody looks for a change: signs, comparisons, lengths, and attributes that are worked out.
SILENT = "__eq__ __len__ __iter__ __getitem__ __contains__ __add__ __le__".split()
CHANGING = set("append clear extend insert pop remove reverse setdefault update add discard sort".split())
INTERFACE = {
    "errors": {name: ["__init__"] for name in (
        "BadArgument BadSetting BadEnd BadPact BadName BadDeed BadState BadMove BadScript BadNumber BadClaim BadChange "
        "BadMenu BadText BadHalf BadBytes NoRow TooMany NothingLeft".split())} | {"PactError": []},
    "settings": {"Setting": "__init__ kind size start hold changes lets __eq__".split()},
    "ends": {"End": "__init__ most words used_words setting use pairs lets with_pairs __eq__".split()},
    "pacts": {"Pact": "__init__ left right end other owner words setting with_end __eq__".split()},
    "states": {"first_state": []},
    "machine": {
        "Machine": "__init__ pact state local lane moves verdicts __call__ play copied".split(), "played": [], "states_of": []},
    "search": {"states": [], "can_come": [], "weaving_to": [], "fewest_moves": []},
    "verdicts": {"verdicts": [], "offences": [], "is_sound": [], "weaving_with": []},
    "tables": {"table_of": [], "is_table": [], "lacking": [], "joined": []},
    "claims": {"holds": [], "is_shown": [], "against": []},
    "waits": {name: [] for name in (
        "stuck_states first_stuck fewest_to_answer lost_states first_lost greatest_wait".split())},
    "marks": {"places": [], "spread": [], "least_marks": [], "place_weaving": []},
    "menus": {"taken_out": [], "let_in": [], "least_taken_out": [], "greatest_let_in": []},
    "alike": {"are_alike": [], "first_parting": [], "alike_ends": []},
    "counting": {"count_weavings": [], "count_shortest": [], "shortest_weavings": []},
    "keeping": {"can_keep": [], "safe_sends": [], "kept_states": [], "forcing": []},
    "forms": {name: [] for name in (
        "rows_of met_by_rows fates_by_rows room_by_rows never_takes_back is_plain".split())},
    "rooms": {"room_places": [], "most_held": [], "most_lost": []},
    "halves": {
        "Half": "__init__ pact name __getitem__ __contains__ __len__ __iter__ __add__ __le__ __eq__ fault verdicts".split(),
        "half_of": [], "joins": []},
    "values": {"write_value": [], "read_value": []},
    "wires": {"pack": [], "unpack": [], "Wire": "__init__ send feed kept".split()},
    "sessions": {
        "Session": "__init__ present put rule undo __len__ file standing offences attempt trying".split()},
    "console": {"Console": "__init__ say".split()},
    "papers": {"wait_paper": [], "is_wait_paper": []},
    "notes": {name: [] for name in (
        "write_setting write_end write_pact write_move write_weaving read_setting read_end read_pact read_move "
        "read_weaving".split())},
}


def module_names(tree):
    """The names that a file defines, imports left out."""
    names = [node.name for node in tree.body if isinstance(node, (ast.FunctionDef, ast.ClassDef))]
    return names + [node.targets[0].id for node in tree.body if isinstance(node, ast.Assign)]


def imports(tree):
    return [(node.module, name.name) for node in tree.body if isinstance(node, ast.ImportFrom) for name in node.names]


def walk(kind):
    for stem, tree in TREES.items():
        for node in ast.walk(tree):
            if isinstance(node, kind):
                yield stem, node


def bound_names(function):
    """The names that are bound within a function."""
    names = [node.arg for node in ast.walk(function) if isinstance(node, ast.arg)]
    return names + [node.id for node in ast.walk(function) if isinstance(node, ast.Name) and isinstance(node.ctx, ast.Store)]


class LanguageTest(unittest.TestCase):
    def test_files(self):
        for path in PACKAGE.iterdir():
            if path.name != "__pycache__":
                self.assertRegex(path.name, r"\A[a-z_0-9]+\.py\Z")
                self.assertNotIn(path.stem, dir(builtins))
        self.assertIn("__init__", FILES)

    def test_characters_and_sizes(self):
        for stem, path in FILES.items():
            text = path.read_text(encoding="ascii")
            self.assertRegex(text, r"\A[ -~\n]*\Z", stem)
            self.assertLessEqual(len(text.splitlines()), 399, stem)
            for line in text.splitlines():
                self.assertLessEqual(len(line), 120, stem)
        for stem, node in walk(ast.FunctionDef):
            self.assertLessEqual(node.end_lineno - node.lineno + 1, 40, (stem, node.name))

    def test_kinds_of_code(self):
        for stem, node in walk(ast.AST):
            self.assertIsInstance(node, NODES, (stem, getattr(node, "lineno", 0)))

    def test_module_level(self):
        for stem, tree in TREES.items():
            self.assertIsNotNone(ast.get_docstring(tree), stem)
            for node in tree.body[1:]:
                self.assertIsInstance(node, (ast.ImportFrom, ast.FunctionDef, ast.ClassDef, ast.Assign), stem)
                if isinstance(node, ast.Assign):
                    self.assertEqual([target.__class__ for target in node.targets], [ast.Name], stem)
                    ast.literal_eval(node.value)
            names = module_names(tree) + [name for _, name in imports(tree)]
            self.assertEqual(sorted(set(names)), sorted(names), stem)

    def test_imports(self):
        for stem, tree in TREES.items():
            text = FILES[stem].read_text(encoding="ascii")
            for module, name in imports(tree):
                package, file = module.split(".")
                self.assertEqual(package, "answeredsettings")
                self.assertIn(name, module_names(TREES[file]), stem)
                self.assertGreater(len(re.findall(rf"\b{name}\b", text)), 1, (stem, name))
            for node in ast.walk(tree):
                if isinstance(node, ast.ImportFrom):
                    self.assertEqual((node.level, [name.asname for name in node.names]), (0, [None] * len(node.names)))

    def test_no_files_import_from_each_other(self):
        needs = {stem: {module.split(".")[1] for module, _ in imports(tree)} for stem, tree in TREES.items()}
        while needs:
            ready = [stem for stem in needs if not needs[stem] & set(needs)]
            self.assertTrue(ready, needs)
            for stem in ready:
                del needs[stem]

    def test_decorators_and_bases(self):
        for stem, node in walk((ast.FunctionDef, ast.ClassDef)):
            for decorator in node.decorator_list:
                self.assertIn(ast.unparse(decorator), ("property", f"{node.name}.setter"), (stem, node.name))
            if isinstance(node, ast.FunctionDef) and node.name.startswith("__"):
                self.assertIn(node.name, DOUBLE, stem)
            self.assertEqual(node.name.startswith("_") and not node.name.startswith("__"), False, (stem, node.name))

    def test_names(self):
        # A prompt, also that of a doctest, adds _ to the builtins.
        words = (set(dir(builtins)) | NOWHERE | NO_NAMES | set(keyword.kwlist)) - {"_"}
        for stem, tree in TREES.items():
            outer = {name for _, name in imports(tree)} | {
                node.name for node in tree.body if isinstance(node, ast.ClassDef)}
            for node in ast.walk(tree):
                if isinstance(node, ast.FunctionDef):
                    for name in bound_names(node):
                        self.assertRegex(name, r"\A(_|[a-z][a-z_0-9]*)\Z", (stem, node.name))
                        self.assertNotIn(name, words | outer, (stem, node.name))
                elif isinstance(node, ast.Attribute):
                    self.assertNotIn(node.attr, NOWHERE, stem)
                    self.assertRegex(node.attr, r"\A_?[a-z][a-z_0-9]*\Z", stem)
            for name in module_names(tree):
                self.assertNotIn(name, words, stem)

    def test_names_that_are_read(self):
        for stem, tree in TREES.items():
            known = set(module_names(tree)) | {name for _, name in imports(tree)} | BUILTINS | {"property"}
            for node in tree.body:
                functions = node.body if isinstance(node, ast.ClassDef) else [node]
                for function in functions:
                    own = set(bound_names(function)) - {"_"} if isinstance(function, ast.FunctionDef) else set()
                    # A setter stands behind its property, and names it.
                    own |= {name.id for decorator in getattr(function, "decorator_list", []) for name in ast.walk(decorator)
                            if isinstance(name, ast.Name)}
                    for name in ast.walk(function):
                        if isinstance(name, ast.Name) and isinstance(name.ctx, ast.Load):
                            self.assertIn(name.id, known | own, (stem, name.lineno))

    def test_attributes(self):
        methods = {node.name for _, node in walk(ast.FunctionDef)}
        stored = {node.attr for _, node in walk(ast.Attribute) if isinstance(node.ctx, ast.Store)}
        decorated = {node.name for _, node in walk(ast.FunctionDef) if node.decorator_list}
        inside = {node.name for _, tree in walk(ast.ClassDef) for node in tree.body if isinstance(node, ast.FunctionDef)}
        setters = {node.name for _, node in walk(ast.FunctionDef) for decorator in node.decorator_list
                   if isinstance(decorator, ast.Attribute)}
        self.assertEqual(stored & inside, setters)
        self.assertEqual(stored & METHODS, set())
        for stem, node in walk(ast.Attribute):
            self.assertIn(node.attr, stored | inside | METHODS | {"setter"}, (stem, node.lineno))
        for stem, node in walk(ast.Call):
            if isinstance(node.func, ast.Attribute):
                # A machine is an object that is called.
                self.assertIn(node.func.attr, (methods - decorated) | METHODS | {"machine"}, (stem, node.lineno))

    def test_words_and_strings(self):
        for stem, path in FILES.items():
            for node in ast.walk(TREES[stem]):
                if isinstance(node, ast.Constant) and isinstance(node.value, str):
                    self.assertNotRegex(node.value, r"[%{}]|\._|\A__.*__\Z", stem)
            text = path.read_text(encoding="ascii")
            self.assertEqual(set(re.findall(r"\w+", text)) & NO_WORDS, set(), stem)
            self.assertNotIn("_wall", text)

    def test_order_asks_for_texts_or_numbers(self):
        for stem, node in walk(ast.Call):
            name = node.func.id if isinstance(node.func, ast.Name) else ""
            if name == "sorted":
                words = [ast.unparse(word) for word in node.keywords]
                self.assertIn(words, (["key=str"], ["key=int"]), (stem, node.lineno))
            self.assertNotIn(name, ("min", "max", "next", "reversed", "set"), (stem, node.lineno))
            if name == "iter":
                self.assertRegex(ast.unparse(node), r"\Aiter\(self\.[a-z_]+\)\Z", stem)

    def test_is_stands_beside_none_true_and_false(self):
        for stem, node in walk(ast.Compare):
            for sign, side in zip(node.ops, node.comparators):
                if isinstance(sign, (ast.Is, ast.IsNot)):
                    self.assertIsInstance(side, ast.Constant, (stem, node.lineno))

    def test_errors_are_made_on_the_spot(self):
        for stem, node in walk(ast.Raise):
            self.assertIsInstance(node.exc, ast.Call, (stem, node.lineno))
            self.assertIn(node.exc.func.id, INTERFACE["errors"], (stem, node.lineno))

    def test_signs_and_properties_change_nothing(self):
        functions = {}
        for _, tree in walk((ast.Module, ast.ClassDef)):
            for node in tree.body:
                if isinstance(node, ast.FunctionDef):
                    functions.setdefault(node.name, []).append(node)
                elif isinstance(node, ast.ClassDef):
                    functions.setdefault(node.name, []).extend(
                        inside for inside in node.body if isinstance(inside, ast.FunctionDef) and inside.name == "__init__")
        waiting = [node for name in functions for node in functions[name]
                   if name in SILENT or [ast.unparse(decorator) for decorator in node.decorator_list] == ["property"]]
        seen = []
        while waiting:
            node = waiting.pop()
            if node not in seen:
                seen.append(node)
                self.assert_changes_nothing(node)
                names = [inside.func for inside in ast.walk(node) if isinstance(inside, ast.Call)]
                for name in names:
                    waiting += functions.get(name.id if isinstance(name, ast.Name) else name.attr, [])
        self.assertGreater(len(seen), 20)

    def assert_changes_nothing(self, function):
        made = [target.id for node in ast.walk(function) if isinstance(node, ast.Assign) for target in node.targets
                if isinstance(target, ast.Name) and isinstance(node.value, (ast.List, ast.ListComp))]
        for node in ast.walk(function):
            if isinstance(node, (ast.Attribute, ast.Subscript)) and not isinstance(node.ctx, ast.Load):
                # Only an object that is being made gets attributes.
                self.assertEqual(function.name, "__init__", node.lineno)
                self.assertRegex(ast.unparse(node), r"\Aself\.[a-z_]+\Z")
            if isinstance(node, ast.Call) and isinstance(node.func, ast.Attribute) and node.func.attr in CHANGING:
                self.assertIn(ast.unparse(node.func.value), made, (function.name, node.lineno))

    def test_bytes_and_remainders(self):
        """Where bytes are made, the left side of a remainder is plainly a number."""
        for stem, node in walk(ast.BinOp):
            if isinstance(node.op, ast.Mod):
                self.assertRegex(ast.unparse(node.left), r"\A(int|len)\(.*\)\Z", (stem, node.lineno))

    def test_what_ends_a_block_is_simple(self):
        """What stands in a finally or in __exit__ are assignments of names and attributes alone."""
        blocks = [node.finalbody for _, node in walk(ast.Try)]
        blocks += [node.body[1:] for _, node in walk(ast.FunctionDef) if node.name == "__exit__"]
        for block in blocks:
            for node in block:
                self.assertIsInstance(node, ast.Assign)
                for inside in ast.walk(node):
                    self.assertIsInstance(inside, (ast.Assign, ast.Name, ast.Attribute, ast.Tuple, ast.expr_context))
        for stem, node in walk(ast.Try):
            self.assertEqual(node.handlers, [], stem)

    def test_texts_with_braces_are_plain(self):
        for stem, node in walk(ast.FormattedValue):
            self.assertEqual((node.conversion, node.format_spec), (-1, None), (stem, node.lineno))
            for inside in ast.walk(node.value):
                self.assertNotIsInstance(inside, (ast.Constant, ast.JoinedStr), (stem, node.lineno))

    def test_interface_is_defined_in_its_files(self):
        for stem, names in INTERFACE.items():
            nodes = {node.name: node for node in TREES[stem].body if isinstance(node, (ast.ClassDef, ast.FunctionDef))}
            for name, methods in names.items():
                self.assertIn(name, nodes, stem)
                inside = [node.name for node in nodes[name].body if isinstance(node, ast.FunctionDef)]
                for method in methods:
                    self.assertIn(method, inside, (stem, name))


if __name__ == "__main__":
    unittest.main()
