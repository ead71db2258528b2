"""The files of the package keep to the subset of Python that the project allows, and to the headings of the interface."""

import ast
import builtins
import os
import unittest

import goonagain

FOLDER = os.path.dirname(goonagain.__file__)

# What each file may need, by the headings of the interface.
NEEDS = {
    "errors": (), "reader": ("errors",), "printer": (), "trees": (), "scopes": ("errors", "trees"),
    "plainset": ("scopes", "trees"), "program": ("plainset", "printer", "reader", "scopes"), "values": (), "standing": (),
    "machine": ("values", "standing", "errors"), "rowmachine": ("machine",), "roadmachine": ("machine",),
    "plain": ("machine", "rowmachine", "ways"), "ways": (), "bounce": (),
    "walker": ("machine", "bounce"), "equals": ("errors", "trees", "scopes"), "turner": ("equals", "errors", "trees"),
    "rows": (), "compiler": ("rows",), "codejudge": ("rows",), "pile": ("rows",),
    "pilemachine": ("codejudge", "compiler", "errors", "machine", "pile", "roadmachine", "rows", "standing"), "segments": (),
    "piecesmachine": ("segments", "standing", "machine", "rowmachine", "roadmachine"), "heldframes": ("segments", "standing"),
    "counts": ("heldframes", "piecesmachine"), "onceforkeep": ("trees", "errors"), "jumpcode": ("program",),
    "jumpjudge": ("jumpcode", "program"), "jumptext": ("errors", "jumpcode", "reader"), "rests": ("standing",),
    "jumpmachine": ("errors", "jumpcode", "jumpjudge", "rests", "machine"), "standfault": ("rows", "standing"), "alike": ("standing",),
    "meaning": ("errors", "standfault", "plain", "pilemachine", "piecesmachine", "jumpmachine"), "writestand": ("standing",),
    "readstand": ("errors", "standing", "writestand"), "handovers": ("errors", "meaning", "writestand", "readstand"),
    "recipes": ("errors",), "choices": ("recipes",), "makers": ("errors", "recipes"), "catching": ("recipes", "makers"), "hands": ("recipes",),
    "runs": ("errors", "meaning", "writestand", "readstand"), "cuts": ("errors", "runs"), "bench": ("errors", "meaning", "runs", "cuts"),
}
# What each file defines: functions with their parameters, classes with their methods.
FUNCTIONS = {
    "reader": {"read_program": "text"}, "printer": {"program_text": "tree"},
    "trees": {"parts_of": "tree", "with_parts": "tree parts", "tree_at": "tree path", "tree_with": "tree path other",
              "tree_paths": "tree", "tree_size": "tree"},
    "scopes": {"check_names": "tree", "free_names": "tree", "set_names": "tree"}, "plainset": {"without_set": "tree"},
    "values": {"is_value": "thing"}, "standing": {"reached": "callee handed frames things"}, "machine": {"run_seen": "machine"},
    "ways": {"winds_of": "frames things", "shared_winds": "present goal things", "deeds_of_way": "present goal things",
             "mark_cut": "frames things", "lay_on": "below frames things", "next_step": "below road things"},
    "bounce": {"run_bounces": "bounce most"}, "walker": {"walk": "tree asks fuel", "walk_counted": "tree asks fuel"},
    "equals": {"is_literal": "tree", "is_calm": "tree", "uses_of": "tree name", "has_take": "whole", "winds_guarded": "whole",
               "turn_here": "tree name whole"},
    "turner": {"list_turns": "whole", "turned": "whole path name", "turn_all": "whole names"}, "rows": {"place_layouts": "program"},
    "compiler": {"compiled_code": "program", "code_text": "code", "turned_code": "code cuts"},
    "codejudge": {"code_fault": "program code"},
    "pile": {"frames_of": "layouts slots roads", "slots_of": "layouts frames things"}, "segments": {"cut_blocks": "frames things"},
    "heldframes": {"reached_rows": "standing", "count_beginnings": "standing", "most_held": "standing", "held_frames": "holding"},
    "counts": {"count_calls": "machine"}, "onceforkeep": {"keep_paths": "tree", "with_once": "tree paths"},
    "jumpcode": {"compiled_jumps": "program"}, "jumpjudge": {"jump_fault": "program code"},
    "jumptext": {"jump_text": "code", "read_jumps": "text"},
    "rests": {"chain_frames": "chain", "chain_of": "frames things", "common_winds": "first second", "cut_under": "chain number",
              "cut_with": "chain number"},
    "standfault": {"standing_fault": "program asks standing"}, "alike": {"closed_standing": "standing", "renaming_between": "one other"},
    "meaning": {"made_machine": "kind program asks fuel", "restored_machine": "kind program asks standing fuel",
                "stepped": "kind program asks standing fuel"},
    "writestand": {"standing_text": "standing"}, "readstand": {"read_standing": "text"}, "handovers": {"handed_over": "machine kind"},
    "recipes": {"check_plan": "plan recipe"}, "choices": {"choices_text": "plan whole", "choices_shown": "plan"},
    "makers": {"makers_text": "plan most", "makers_shown": "plan most"}, "catching": {"catching_text": "plan", "catching_shown": "plan"},
    "hands": {"hands_text": "plan", "hands_shown": "plan"}, "runs": {"run_course": "program asks handovers start fuel"},
    "cuts": {"kept_standing": "run"}, "bench": {"check_deeds": "deeds", "conduct": "program asks deeds kind fuel"},
}
CLASSES = {
    "program": {"Program": {"__init__": "self text", "of_tree": "tree"}},
    "standing": {"Standing": {"__init__": "self callee handed frames things born calls asked shown", "__eq__": "self other"}},
    "machine": {"Seen": {"__init__": "self shows end", "__eq__": "self other"},
                "Machine": {"__init__": "self program asks fuel", "advance": "self"}},
    "plain": {"PlainMachine": {"__init__": "self program asks fuel", "standing": "self", "restored": "program asks standing fuel"}},
    "bounce": {"Bounce": {"__init__": "self deed worth"}},
    "walker": {"Walked": {"__init__": "self shows end calls asked deeds", "__eq__": "self other"}},
    "turner": {"Turned": {"__init__": "self tree turns", "__eq__": "self other"}},
    "rows": {"Layout": {"__init__": "self size kept offsets outer", "__eq__": "self other"},
             "Code": {"__init__": "self rows places bodies", "__eq__": "self other"}},
    "pilemachine": {"PileMachine": {"__init__": "self program asks fuel code", "standing": "self", "pile_slots": "self",
                                    "roads_kept": "self", "restored": "program asks standing fuel code"}},
    "segments": {"Holding": {"__init__": "self blocks present opened rows", "__eq__": "self other"}},
    "piecesmachine": {"PiecesMachine": {"__init__": "self program asks fuel", "standing": "self", "holding": "self",
                                        "restored": "program asks standing fuel"}},
    "counts": {"Count": {"__init__": "self calls held beginnings rows copied", "__eq__": "self other"}},
    "jumpcode": {"JumpCode": {"__init__": "self rows starts returns", "__eq__": "self other"}},
    "rests": {"Record": {"__init__": "self birth word detail below"}, "MarkRecord": {"__init__": "self birth top outer"},
              "Chain": {"__init__": "self top marked"}},
    "jumpmachine": {"JumpMachine": {"__init__": "self program asks fuel code", "standing": "self", "restored": "program asks standing fuel code"}},
    "meaning": {"Stepped": {"__init__": "self standing outcome shown"}},
    "runs": {"Leg": {"__init__": "self kind first last", "__eq__": "self other"}, "Course": {"__init__": "self shows end calls legs_done texts"},
             "Run": {"__init__": "self program asks kind fuel", "seen": "self", "legs": "self", "performed": "self", "go": "self many",
                     "finish": "self", "written": "self", "hand": "self kind", "settle": "self text kind"}},
    "cuts": {"Kept": {"__init__": "self calls told text", "__eq__": "self other"},
             "Shelf": {"__init__": "self first", "put": "self kept", "lose": "self many", "latest": "self", "all_kept": "self", "__iter__": "self"}},
    "bench": {"Trial": {"__init__": "self news end calls done"}, "Account": {"__init__": "self shows end calls work legs_done done"},
              "Bench": {"__init__": "self program asks kind fuel", "seen": "self", "legs": "self", "performed": "self", "stands_at": "self",
                        "carried_by": "self", "ended": "self", "go": "self many", "finish": "self", "hand": "self kind", "keep": "self",
                        "cut": "self lost kind", "take_back": "self", "perform": "self", "trial": "self deeds"}},
}
# The properties of each class, which are defined in it and read alone.
PROPERTIES = {"Run": ("seen", "legs", "performed"), "Bench": ("seen", "legs", "performed", "stands_at", "carried_by", "ended")}
BUILTINS = """len range enumerate zip min max sum abs sorted reversed int str bool list tuple dict set isinstance ord repr any all
    divmod getattr hasattr setattr iter next map super staticmethod property ValueError TypeError KeyError IndexError LookupError
    NotImplementedError RuntimeError""".split()
METHODS = """append clear copy count endswith extend find get index insert isalnum isalpha isdigit islower isspace isupper items join
    keys ljust lower lstrip partition pop remove replace reverse rfind rjust rpartition rsplit rstrip setdefault split splitlines
    startswith strip update upper values zfill bit_length add discard isascii""".split()
BARRED = """type typing typing_extensions enum Enum IntEnum StrEnum Flag IntFlag Generic Protocol ABC ABCMeta namedtuple NamedTuple
    TypedDict TYPE_CHECKING abstractmethod register mro elements open input law version_info with_traceback add_note attrgetter
    breakpoint compile delattr dir eval exec exit gc globals help id importlib license locals methodcaller os quit vars sys
    _wall _WallAttr""".split()
NODES = (ast.AsyncFunctionDef, ast.Global, ast.Import, ast.SetComp, ast.Await, ast.AnnAssign, ast.GeneratorExp, ast.Match, ast.With,
         ast.Yield, ast.YieldFrom, ast.Try, ast.NamedExpr, ast.Div, ast.Assert, ast.Set)


def package():
    for name in sorted(os.listdir(FOLDER)):
        if name != "__pycache__":
            with open(os.path.join(FOLDER, name), encoding="utf-8", newline="") as file:
                yield name, file.read()


def names_of(arguments):
    return [one.arg for one in arguments.posonlyargs + arguments.args + arguments.kwonlyargs]


class Files(unittest.TestCase):
    def test_only_plain_files(self):
        self.assertEqual([name for name, _ in package()], sorted(name + ".py" for name in list(NEEDS) + ["__init__"]))

    def test_characters_and_sizes(self):
        for name, text in package():
            self.assertTrue(all(sign == "\n" or " " <= sign <= "~" for sign in text), name)
            self.assertTrue(text.endswith("\n"), name)
            lines = text.split("\n")
            self.assertLessEqual(len(lines) - 1, 399, name)
            for number, line in enumerate(lines, 1):
                self.assertLessEqual(len(line), 120, (name, number))
                self.assertEqual(line, line.rstrip(), (name, number))
            for node in ast.walk(ast.parse(text)):
                if isinstance(node, ast.FunctionDef):
                    self.assertLessEqual(node.end_lineno - node.lineno + 1, 40, (name, node.name))

    def test_imports(self):
        for name, text in package():
            module = name[:-3]
            body = ast.parse(text).body
            imports = [node for node in body if isinstance(node, ast.ImportFrom)]
            behind = [node for node in body if not isinstance(node, ast.ImportFrom)]
            if behind and imports:
                # A docstring may stand ahead of the imports, nothing else.
                self.assertLess(imports[-1].lineno, behind[1].lineno, name)
            for node in imports:
                self.assertEqual(node.level, 0)
                self.assertTrue(node.module.startswith("goonagain."), name)
                needed = node.module[len("goonagain."):]
                self.assertIn(needed, NEEDS[module], name)
                with open(os.path.join(FOLDER, needed + ".py"), encoding="utf-8") as file:
                    defined = [getattr(one, "name", None) or one.targets[0].id for one in ast.parse(file.read()).body
                               if isinstance(one, (ast.FunctionDef, ast.ClassDef, ast.Assign))]
                for alias in node.names:
                    self.assertIsNone(alias.asname)
                    self.assertIn(alias.name, defined)
                    self.assertFalse(alias.name.startswith("_"))

    def test_module_level(self):
        for name, text in package():
            bound = []
            for node in ast.parse(text).body:
                self.assertIsInstance(node, (ast.Expr, ast.ImportFrom, ast.FunctionDef, ast.ClassDef, ast.Assign), name)
                if isinstance(node, ast.Expr):
                    self.assertIsInstance(node.value.value, str)
                elif isinstance(node, ast.ImportFrom):
                    bound.extend(alias.name for alias in node.names)
                elif isinstance(node, ast.Assign):
                    self.assertEqual([type(target) for target in node.targets], [ast.Name])
                    bound.append(node.targets[0].id)
                else:
                    bound.append(node.name)
            self.assertEqual(len(bound), len(set(bound)), name)


class Words(unittest.TestCase):
    def check(self, condition, name, node, what):
        self.assertTrue(condition, f"{name}:{getattr(node, 'lineno', '?')}: {what}")

    def test_statements_and_expressions(self):
        for name, text in package():
            for node in ast.walk(ast.parse(text)):
                self.check(not isinstance(node, NODES), name, node, type(node).__name__)
                if isinstance(node, ast.Constant):
                    self.check(not isinstance(node.value, (float, complex, bytes)), name, node, "a constant")
                if isinstance(node, (ast.FunctionDef, ast.ClassDef)):
                    for decorator in node.decorator_list:
                        self.check(isinstance(node, ast.FunctionDef) and decorator.id in ("staticmethod", "property"), name, node, "a decorator")
                if isinstance(node, ast.Compare):
                    for sign, right in zip(node.ops, node.comparators):
                        if isinstance(sign, (ast.Is, ast.IsNot)):
                            self.check(isinstance(right, ast.Constant) and right.value is None, name, node, "is")
                if isinstance(node, ast.Raise):
                    self.check(isinstance(node.exc, ast.Call), name, node, "raise")
                if isinstance(node, ast.FunctionDef):
                    self.check(not node.args.kwarg and not node.returns, name, node, "parameters")
                    self.check(not node.args.vararg or node.name == "perform", name, node, "parameters")

    def test_attributes_are_assigned_through_a_local_name(self):
        for name, text in package():
            for node in ast.walk(ast.parse(text)):
                if isinstance(node, ast.Attribute) and isinstance(node.ctx, ast.Store):
                    self.check(isinstance(node.value, ast.Name), name, node, "a target")

    def test_builtins(self):
        known = set(dir(builtins)) - {"__name__"}
        for name, text in package():
            for node in ast.walk(ast.parse(text)):
                if isinstance(node, ast.Name) and node.id in known:
                    self.check(isinstance(node.ctx, ast.Load) and node.id in BUILTINS, name, node, node.id)
                if isinstance(node, (ast.FunctionDef, ast.Lambda)):
                    for parameter in names_of(node.args):
                        self.check(parameter not in known, name, node, parameter)
                if isinstance(node, (ast.FunctionDef, ast.ClassDef)):
                    self.check(node.name not in known, name, node, node.name)

    def test_methods_of_builtin_values(self):
        known = set(dir(str)) | set(dir(list)) | set(dir(dict)) | set(dir(tuple)) | set(dir(set)) | set(dir(int)) | set(dir(bytes))
        for name, text in package():
            for node in ast.walk(ast.parse(text)):
                if isinstance(node, ast.Attribute) and node.attr in known:
                    self.check(node.attr in METHODS or node.attr in ("__init__", "index"), name, node, node.attr)

    def test_barred_words(self):
        for name, text in package():
            tree = ast.parse(text)
            docs = {id(node.body[0].value) for node in ast.walk(tree)
                    if isinstance(node, (ast.Module, ast.FunctionDef, ast.ClassDef)) and node.body
                    and isinstance(node.body[0], ast.Expr)}
            for node in ast.walk(tree):
                for field in ("id", "attr", "arg", "name"):
                    word = getattr(node, field, None)
                    if isinstance(word, str):
                        self.check(word not in BARRED, name, node, word)
                        self.check(not word.startswith("__") or word in ("__init__", "__eq__", "__iter__"), name, node, word)
                if isinstance(node, ast.Constant) and isinstance(node.value, str):
                    self.check("%" not in node.value, name, node, "%")
                    if id(node) not in docs:
                        self.check(not set(node.value.replace("(", " ").split()) & set(BARRED), name, node, node.value)

    def test_names_of_classes_and_imports_are_not_used_again(self):
        for name, text in package():
            tree = ast.parse(text)
            taken = {alias.name for node in tree.body if isinstance(node, ast.ImportFrom) for alias in node.names}
            taken |= {node.name for node in tree.body if isinstance(node, ast.ClassDef)}
            for node in ast.walk(tree):
                if isinstance(node, ast.Name) and isinstance(node.ctx, (ast.Store, ast.Del)):
                    self.check(node.id not in taken, name, node, node.id)
                if isinstance(node, (ast.FunctionDef, ast.Lambda)):
                    for parameter in names_of(node.args):
                        self.check(parameter not in taken, name, node, parameter)

    def test_no_name_is_a_method_and_an_attribute(self):
        methods, attributes = set(), set()
        for _, text in package():
            for node in ast.walk(ast.parse(text)):
                if isinstance(node, ast.ClassDef):
                    methods |= {one.name for one in node.body if isinstance(one, ast.FunctionDef)}
                if isinstance(node, ast.Attribute) and isinstance(node.ctx, ast.Store):
                    attributes.add(node.attr)
        # The interface names both: the method of the machines, and the attribute of Stepped.
        self.assertEqual(methods & attributes, {"standing"})

    def test_properties(self):
        for name, text in package():
            for node in ast.walk(ast.parse(text)):
                if isinstance(node, ast.ClassDef):
                    found = [one.name for one in node.body if isinstance(one, ast.FunctionDef)
                             and [decorator.id for decorator in one.decorator_list] == ["property"]]
                    self.assertEqual(tuple(found), PROPERTIES.get(node.name, ()), (name, node.name))
                    for one in node.body:
                        # A property assigns a local name at most, and calls nothing but a class of the file.
                        if isinstance(one, ast.FunctionDef) and one.name in found:
                            self.check(isinstance(one.body[-1], ast.Return), name, one, one.name)
                            for row in one.body[1:-1]:
                                self.check(isinstance(row, ast.Assign) and isinstance(row.targets[0], ast.Name), name, one, one.name)
                            calls = [call.func for call in ast.walk(one) if isinstance(call, ast.Call)]
                            self.check(all(isinstance(func, ast.Name) and func.id == "Leg" for func in calls), name, one, one.name)

    def test_what_is_iterated_over_is_its_one_statement(self):
        found = []
        for name, text in package():
            for node in ast.walk(ast.parse(text)):
                if isinstance(node, ast.FunctionDef) and node.name == "__iter__":
                    found.append(ast.unparse(node.body[0]))
                    self.check(len(node.body) == 1, name, node, node.name)
        self.assertEqual(found, ["return iter(self._row)"])

    def test_what_is_iterated_on_the_spot_is_not_returned_or_kept(self):
        for name, text in package():
            for node in ast.walk(ast.parse(text)):
                if isinstance(node, (ast.Return, ast.Assign)) and isinstance(node.value, ast.Call):
                    called = node.value.func
                    word = called.id if isinstance(called, ast.Name) else called.attr if isinstance(called, ast.Attribute) else ""
                    self.check(word not in ("range", "zip", "enumerate", "reversed", "items", "keys", "values"), name, node, word)


class Interface(unittest.TestCase):
    def test_functions(self):
        trees = {name[:-3]: ast.parse(text) for name, text in package()}
        for module, functions in FUNCTIONS.items():
            found = {node.name: node for node in trees[module].body if isinstance(node, ast.FunctionDef)}
            for function, parameters in functions.items():
                self.assertEqual(" ".join(names_of(found[function].args)), parameters, function)

    def test_classes(self):
        trees = {name[:-3]: ast.parse(text) for name, text in package()}
        for module, classes in CLASSES.items():
            found = {node.name: node for node in trees[module].body if isinstance(node, ast.ClassDef)}
            for name, methods in classes.items():
                own = {node.name: node for node in found[name].body if isinstance(node, ast.FunctionDef)}
                for method, parameters in methods.items():
                    self.assertEqual(" ".join(names_of(own[method].args)), parameters, (name, method))

    def test_defaults(self):
        trees = {name[:-3]: ast.parse(text) for name, text in package()}

        def defaults(module, name):
            for node in ast.walk(trees[module]):
                if isinstance(node, ast.FunctionDef) and node.name == name and node.args.defaults:
                    yield [ast.unparse(one) for one in node.args.defaults]
        self.assertEqual(list(defaults("walker", "walk")), [["()", "2000"]])
        self.assertEqual(list(defaults("walker", "walk_counted")), [["()", "2000"]])
        self.assertEqual(list(defaults("machine", "__init__")), [["()", "2000"]])
        self.assertEqual(list(defaults("plain", "__init__")), [["()", "2000"]])
        self.assertEqual(list(defaults("plain", "restored")), [["2000"]])
        self.assertEqual(list(defaults("bounce", "run_bounces")), [["1000000"]])
        self.assertEqual(list(defaults("turner", "turn_all")), [["TURN_NAMES"]])
        self.assertEqual(list(defaults("pilemachine", "__init__")), [["()", "2000"]])
        self.assertEqual(list(defaults("pilemachine", "restored")), [["2000"]])
        self.assertEqual(list(defaults("piecesmachine", "__init__")), [["()", "2000"]])
        self.assertEqual(list(defaults("piecesmachine", "restored")), [["2000"]])
        self.assertEqual(list(defaults("jumpmachine", "__init__")), [["()", "2000"]])
        self.assertEqual(list(defaults("jumpmachine", "restored")), [["2000"]])
        self.assertEqual(list(defaults("meaning", "made_machine")), [["()", "2000"]])
        self.assertEqual(list(defaults("meaning", "restored_machine")), [["2000"]])
        self.assertEqual(list(defaults("meaning", "stepped")), [["2000"]])
        self.assertEqual(list(defaults("makers", "makers_text")), [["MOST_ITEMS"]])
        self.assertEqual(list(defaults("makers", "makers_shown")), [["MOST_ITEMS"]])
        self.assertEqual(list(defaults("runs", "__init__")), [["()"]])
        self.assertEqual(list(defaults("runs", "go")), [["1"]])
        self.assertEqual(list(defaults("runs", "run_course")), [["()", "()"]])
        self.assertEqual(list(defaults("bench", "__init__")), [["()"]])
        self.assertEqual(list(defaults("bench", "go")), [["1"]])
        self.assertEqual(list(defaults("bench", "cut")), [["0", "'plain'"]])

    def test_what_is_passed_by_keyword_alone(self):
        trees = {name[:-3]: ast.parse(text) for name, text in package()}
        found = {}
        for module, tree in trees.items():
            for node in ast.walk(tree):
                if isinstance(node, ast.FunctionDef) and node.args.kwonlyargs:
                    found.setdefault(module, []).append(
                        (node.name, {one.arg: worth.value for one, worth in zip(node.args.kwonlyargs, node.args.kw_defaults)}))
        self.assertEqual(found, {
            "pilemachine": [("__init__", {"code": None}), ("restored", {"code": None})],
            "jumpmachine": [("__init__", {"code": None}), ("restored", {"code": None})],
            "choices": [("choices_text", {"whole": False})],
            "runs": [("run_course", {"start": "plain", "fuel": 2000}), ("__init__", {"kind": "plain", "fuel": 2000})],
            "bench": [("conduct", {"kind": "plain", "fuel": 2000}), ("__init__", {"kind": "plain", "fuel": 2000})]})


if __name__ == "__main__":
    unittest.main()
