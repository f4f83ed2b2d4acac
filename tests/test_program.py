"""The form of the program: the sizes of rule L10, plain characters and imports, and the names of the interface."""

import ast
import builtins
import importlib
import inspect
import re
import unittest
from pathlib import Path

FOLDER = Path(__file__).resolve().parent.parent / "setitback"
FILES = sorted(FOLDER.rglob("*"))
INTERFACE = {
    "errors": "OwnError BadOctets(at) BadBond(at) BadMachine(at) BadWeight(at) BadTree(at) BadText(at) Refused(value) Broken(at)"
              " TooGreat(most) NoFilling(value) NoSituation(value)",
    "forms": "check_fields(value) filling_count(fields) filling_of(fields,values) values_of(fields,filling)"
             " with_value(fields,filling,at,value) is_setting(value) check_setting(value) check_run(value)"
             " setting_octets(setting) write_run(run) setting_at(octets,at) read_run(octets)",
    "bonds": "check_bond(value) size_of(bond,side) check_lot(bond,side,value) fits(bond,s,t) partners(bond,side,lot)"
             " only(bond,side,lot) degrees(bond,side) quotient(bond,side,lot) pieces(bond) turned(bond)"
             " restricted(bond,side,lot) joined(one,other) put_together(one,other) beside(one,other)"
             " ruled(rows,columns,rules) bond_octets(bond) bond_at(octets,at)",
    "flows": "circulation(nodes,arcs) least(nodes,arcs) flow_holds(nodes,arcs,value)",
    "shares": "lot_at(bond,side,price) climb(bond,side) greatest(bond,side) product(bond) check_weight(bond,value)"
              " share_sums(bond,weight) quotient_paper(bond,side) quotient_holds(bond,side,value)",
    "tight": "is_tight(bond,side,lot) tight_lots(bond,side) least_tight(bond,side,filling) carried(bond) blocks(bond)"
             " crossing(bond,start)",
    "weights": "is_balanced(bond,weight) balanced(bond,start) start_paper(bond,start) start_holds(bond,start,value)"
               " asked(bond,side,lot) anywhere(bond) anywhere_weight(bond) anywhere_paper(bond) anywhere_holds(bond,value)",
    "machines": "need_setting(bond,value) need_run(bond,run) settings_of(bond) check_machine(bond,value) bond_of(machine)"
                " shown(machine,situation) put(machine,situation,setting) led(machine,situation,run) seen(machine,run)"
                " come(machine) come_by(machine,situation) trimmed(machine)",
    "alike": "classes(machine) class_of(machine,situation) parting(machine,x,y) are_alike(machine,x,y)"
             " made_least(machine) apart(machine,other)",
    "lossless": "lost_at(machine,run) loss(machine) is_lossless(machine) walk_back(machine,situation,run) kept(machine)"
                " is_forgetful(machine) onto(machine,side,one,other)",
    "finite": "machine_of(bond,weight,start) weight_of(bond,machine) least_machine(bond,start) is_least(machine)"
              " orbits(machine,side) woven(bond,kinds,start,rows,columns)",
    "hotel": "Hotel(bond,start)",
    "ladder": "steps(bond,great,many) enough(bond) layers(bond,start,great,many)",
    "growing": "Growing(bond,start)",
    "balls": "counted(machine,many) due(bond,start,many) levels(machine) narrow(machine) narrow_number(bond,many)"
             " told_number(bond,start,many) judged(machine)",
    "views": "check_view(value) view_bond(view) is_view(bond) view_of(bond) fibres(view) spread(view) fewest(view,many)"
             " complement(view,s) put_back(view,s,t) from_complement(view,place,t)",
    "trees": "check_tree(value) edge_bond(tree,at) fitting(tree) barring(tree,start) fewest_situations(tree,start)",
    "glued": "glued(tree,start) glued_holds(tree,start,value) led_through(tree,start,machine,run)",
    "plans": "check_plan(value) plan_shares(plan,weight)",
    "many": "plan_of(bond) plan_paper(plan,start) plan_holds(plan,start,value) bound_paper(plan,bound)"
            " bound_holds(plan,bound,value) least_step(plan,many) plan_machine(plan,weight,start)",
    "change": "check_cost(value) is_convex(cost) bent(cost) table_of(cost,size) line_change(cost,one,other)"
              " line_of(bond,weight,side,filling) check_table(value) change(machine,side,one,other,table)"
              " cheapest(table,one,other) cheapest_holds(table,one,other,value) cheap_machine(bond,weight,start,rows,columns)",
    "still": "touched(bond,machine) is_still(bond,machine) still_bar(bond) still_weight(bond) still_machine(bond,start)",
    "meaning": "told(bond,start) within(bond,start,many) bits(bond,start,many) paper(bond,start) paper_holds(bond,start,value)",
    "world": "World(bond,start)",
    "journal": "short(bond,start,run) read_journal(octets) note(bond,start,situation) from_note(octets) Journal(bond,start)"
               " opened(octets)",
    "sheets": "check_sheet(value) write_sheet(sheet) read_sheet(text)",
    "desk": "Desk(text)",
}
CLASSES = {
    "hotel.Hotel": "shown(situation) layer(situation) rank(situation,side) nth(side,filling,rank) put(situation,setting)"
                   " led(situation,run) within(many)",
    "growing.Growing": "shown(situation) layer(situation) rank(situation,side) nth(side,filling,rank) put(situation,setting)"
                       " led(situation,run) weight(layer) within(many)",
    "world.World": "tells() take(setting) take_all(run) backs(run) go(situation) twin()",
    "journal.Journal": "take(setting)",
    "desk.Desk": "say(line)",
}


def sources():
    for path in FILES:
        if path.suffix == ".py":
            text = path.read_text(encoding="utf-8")
            yield path, text, ast.parse(text)


def nodes_of(kind):
    for path, _, tree in sources():
        for node in ast.walk(tree):
            if isinstance(node, kind):
                yield path, node


class Sizes(unittest.TestCase):
    def test_functions_files_and_lines(self):
        for path, text, tree in sources():
            lines = text.split("\n")
            self.assertLessEqual(len(lines) - (lines[-1] == ""), 399, path)
            for at, line in enumerate(lines):
                self.assertLessEqual(len(line), 120, f"{path}:{at + 1}")
                self.assertNotIn("\t", line, f"{path}:{at + 1}")
            for node in ast.walk(tree):
                if isinstance(node, ast.FunctionDef):
                    self.assertLessEqual(node.end_lineno - node.lineno + 1, 40, f"{path}:{node.lineno}")

    def test_one_package_of_plain_files(self):
        self.assertTrue((FOLDER / "__init__.py").exists())
        for path in FILES:
            if "__pycache__" not in path.parts:
                self.assertRegex(path.name, r"^[a-z_]+\.py$")
        for _, text, _ in sources():
            self.assertTrue(all(" " <= sign <= "~" or sign == "\n" for sign in text))


class Rules(unittest.TestCase):
    def test_imports_name_the_file_that_defines(self):
        for path, node in nodes_of((ast.Import, ast.ImportFrom)):
            self.assertIsInstance(node, ast.ImportFrom, path)
            self.assertEqual(node.level, 0)
            for alias in node.names:
                self.assertIsNone(alias.asname)
                if node.module == "math":
                    self.assertIn(alias.name, ("gcd", "lcm", "isqrt"))
                    continue
                self.assertTrue(node.module.startswith("setitback."), f"{path}: {node.module}")
                value = getattr(importlib.import_module(node.module), alias.name)
                self.assertEqual(getattr(value, "__module__", node.module), node.module, f"{path}: {alias.name}")

    def test_no_two_files_import_from_each_other(self):
        leads = {}
        for path, _, tree in sources():
            leads[path.stem] = {node.module.split(".")[1] for node in ast.walk(tree)
                                if isinstance(node, ast.ImportFrom) and node.module.startswith("setitback.")}
        while leads:
            last = [name for name, others in leads.items() if not others & leads.keys()]
            self.assertTrue(last, leads)
            leads = {name: others for name, others in leads.items() if name not in last}

    def test_names(self):
        for path, _, tree in sources():
            imported = {alias.name for node in ast.walk(tree) if isinstance(node, ast.ImportFrom) for alias in node.names}
            imported |= {node.name for node in ast.walk(tree) if isinstance(node, ast.ClassDef)}
            for node in ast.walk(tree):
                name = None
                if isinstance(node, ast.arg):
                    name = node.arg
                elif isinstance(node, ast.Name) and isinstance(node.ctx, ast.Store):
                    name = node.id
                elif isinstance(node, ast.FunctionDef):
                    name = node.name
                if name is not None and not name.startswith("__"):
                    self.assertFalse(hasattr(builtins, name), f"{path}:{node.lineno}: {name}")
                    self.assertFalse(name in imported, f"{path}:{node.lineno}: {name}")

    def test_no_barred_statements_and_values(self):
        barred = (ast.Global, ast.AsyncFunctionDef, ast.Div, ast.Lambda, ast.GeneratorExp, ast.Yield)
        for path, node in nodes_of(barred):
            self.assertIsInstance(node, ast.Lambda, f"{path}: {ast.dump(node)[:80]}")
        for path, node in nodes_of(ast.Constant):
            self.assertNotIsInstance(node.value, (float, bytes, complex), path)
            if isinstance(node.value, str):
                self.assertNotIn("%", node.value, path)
        for path, node in nodes_of(ast.FunctionDef):
            self.assertTrue(all(isinstance(part, ast.Name) and part.id == "property" for part in node.decorator_list), path)
        for path, node in nodes_of(ast.Compare):
            if any(isinstance(sign, (ast.Is, ast.IsNot)) for sign in node.ops):
                self.assertIsInstance(node.comparators[0], ast.Constant, f"{path}:{node.lineno}")

    def test_no_barred_words(self):
        words = "register mro elements open input law type typing enum Enum Flag Generic Protocol ABC namedtuple eval exec"
        for path, text, _ in sources():
            code = re.sub(r'"""[\s\S]*?"""|#.*', "", text)
            for word in words.split():
                self.assertIsNone(re.search(rf"\b{word}\b", code), f"{path}: {word}")


class Interface(unittest.TestCase):
    def test_names_and_parameters(self):
        for name, told in INTERFACE.items():
            module = importlib.import_module(f"setitback.{name}")
            for signature in told.split():
                function, _, parameters = signature.partition("(")
                value = getattr(module, function)
                self.assertEqual(value.__module__, f"setitback.{name}", function)
                if parameters:
                    self.assertEqual(",".join(inspect.signature(value).parameters) + ")", parameters, function)

    def test_methods_stand_in_their_classes(self):
        for name, told in CLASSES.items():
            file, _, word = name.partition(".")
            methods = vars(getattr(importlib.import_module(f"setitback.{file}"), word))
            for signature in told.split():
                method, _, parameters = signature.partition("(")
                self.assertEqual(",".join(list(inspect.signature(methods[method]).parameters)[1:]) + ")", parameters, method)


if __name__ == "__main__":
    unittest.main()
