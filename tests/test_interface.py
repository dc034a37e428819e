"""The names of the interface: where they are defined, and with which arguments."""

import ast
import os
import unittest

TOP = os.path.dirname(os.path.dirname(os.path.abspath(__file__)))

FUNCTIONS = {
    "value": ["is_value(x, kind)", "fault(code)", "is_fault(x)", "least_fault(xs)", "order(a, b)", "row_order(a, b)",
              "sorted_rows(rows)"],
    "operators": ["kind_of(name, kinds)", "worked(name, args)", "may_fault(name)", "is_strict(name)"],
    "column": ["packed(values, kind, packing)", "unpacked(data)", "best(values, kind)"],
    "bound": ["bound(values)", "may_hold(name, bound, value)"],
    "schema": ["check_schema(schema)", "fits(schema, row)"],
    "store": ["segmented(schema, rows, packing, size)", "segment_rows(schema, segment)"],
    "words": ["words(text)"],
    "grammar": ["parse(text)"],
    "printer": ["printed(tree)"],
    "binder": ["bind(tree, schemas)"],
    "plan": ["kinds(plan, schemas)", "nodes(plan)", "used(expr)", "put_in(expr, exprs)", "moved(expr, places)",
             "parts(cond)", "joined(conds)"],
    "meaning": ["answer(plan, tables)", "value_of(expr, row, outers, tables)", "bag(plan, outers, tables)"],
    "facts": ["facts(plan, schemas)", "safe(expr, faults)"],
    "rules": ["found(plan, schemas)"],
    "checker": ["takes(plan, step, schemas)", "takes_all(plan, steps, schemas)"],
    "estimate": ["size(running, stats)", "cost(running, stats)"],
    "optimise": ["candidates(plan, schemas, stats)"],
    "running": ["plan_of(running)", "simple(plan)"],
    "run": ["run(running, tables, *, budget=1000, batch=64, workers=1, turns=())"],
    "view": ["can_keep(plan, schemas)", "change_of(plan, schemas, tables, change)"],
    "programs": ["check_program(program, database)", "check_values(program, values)", "key_column(schema)",
                 "footprint(program, database)", "run_footprint(footprint, values)", "shape(program, database)"],
    "runs": ["writes(footprint)", "is_stale(level, snapshot, footprint, commits)", "commit(run, commits)"],
    "web": ["literals(shapes, kind)", "choices(shapes, place)"],
    "splits": ["split(shapes, place, strong)", "closing(shapes, place, strong, most)", "needed(shapes, strong)",
               "is_kept(shapes, strict, strong)"],
    "webjudge": ["judge_split(shapes, place, strong, told)", "judge_closing(shapes, place, strong, most, told)"],
    "played": ["runs_of(shapes, place, split)", "sessions_of(split)", "steps_of(split)"],
    "octets": ["written(value)", "read(octets)"],
    "log": ["check_number(octets)", "entry(kind, payload)", "entry_at(octets, at)", "recovered(desk, octets)"],
    "copies": ["only_reads(program)"],
    "history": ["graph(history, footprints, sessions=())", "first_order(history, footprints, sessions=())",
                "first_ring(history, footprints, sessions=())", "is_order(history, footprints, order, sessions=())",
                "is_ring(history, footprints, ring, sessions=())", "keeps(history, session)", "split_in(history, footprints, ring)"],
    "serial": ["plain_table(schema, rows)", "plain_tables(database, version)", "asked(database, text, tables)",
               "plain_run(database, program, values, tables)", "behind(tables, writes)",
               "serially(database, programs, history, order, tables)"],
    "inview": ["rows_in(database, name, seen)", "rows_back(database, name, seen)"],
    "right": ["check_right(right, database)", "right_of(right, name)", "is_seen(what, row)", "seen_rows(right, name, rows)",
              "joined(a, b)", "met(a, b)", "is_within(a, b, database, version)", "is_enough(right, footprint)",
              "seen_change(right, change)"],
    "watch": ["watch(database, programs, footprints, version, tables, history, last)"],
    "again": ["rounds(database, commits, tries)", "one_round(database, commits, tries)", "holds(database, text, tables)",
              "keeps_alone(database, program, values, text, tables)", "broken(database, text, first)"],
}

CLASSES = {
    "errors": {"PeristyleError": [], "BadText": ["__init__(self, at)"], "BadName": ["__init__(self, at)"],
               "BadKind": ["__init__(self, at)"], "BadForm": [], "BadKey": [], "NoSuch": [], "TooMuch": [],
               "Stale": [], "Behind": []},
    "store": {"Store": ["create(self, schema)", "drop(self, name)", "schemas(self)", "schema(self, name)",
                        "version(self)", "commit(self, changes)", "rows(self, name, version)",
                        "segments(self, name, version)", "pack(self, name, packing)", "settle(self, name, size)"]},
    "view": {"View": ["__init__(self, plan, schemas, tables)", "rows(self)", "change(self, change)", "looked(self)"]},
    "database": {"Database": [
        "__init__(self)", "create(self, schema)", "drop(self, name)", "commit(self, changes)", "schemas(self)",
        "version(self)", "pack(self, name, packing)", "settle(self, name, size)", "schema(self, name)",
        "bound(self, text)", "view(self, name, text)", "drop_view(self, name)", "views(self)", "kept(self, name)",
        "query(self, text, *, version=None, choice=0, budget=1000, batch=64, workers=1, turns=())",
        "explain(self, text, *, choice=0, ran=False)"]},
    "seen": {"Seen": ["__init__(self, database, version)", "row(self, name, value)", "rows(self, name)",
                      "write(self, name, value, row)", "changes(self)"]},
    "runs": {"Run": ["__init__(self, database, program, values, level, snapshot)",
                     "step(self, *, choice=0, budget=1000, batch=64, workers=1, turns=())", "is_over(self)",
                     "finish(self)", "footprint(self)", "changes(self)"]},
    "desk": {"Desk": [
        "__init__(self)", "create(self, schema)", "view(self, name, text)", "fill(self, changes)", "add(self, program)",
        "allot(self, levels)", "program(self, name)", "level(self, name)", "allotment(self)", "schemas(self)", "version(self)",
        "views(self)", "first(self)", "begin(self, name, values, *, snapshot=None)",
        "step(self, number, *, choice=0, budget=1000, batch=64, workers=1, turns=())", "leave(self, number)",
        "commit(self, number)", "run(self, name, values, *, snapshot=None)", "history(self)", "give(self, user, right)",
        "look(self, user, name, values, *, snapshot=None)", "log(self)", "image(self)", "redo(self, kind, payload)"]},
    "right": {"SeenBy": ["__init__(self, database, version, right)", "row(self, name, value)", "rows(self, name)"],
              "SeenView": ["__init__(self, database, name, right)", "rows(self)", "change(self, change)"]},
    "copies": {"Session": ["__init__(self)", "check(self, version)", "saw(self, version)"],
               "Copy": ["__init__(self, desk)", "take(self, octets)", "version(self)", "run(self, name, values, session=None)"]},
}


def tree_of(module):
    with open(os.path.join(TOP, "entablature", module + ".py"), encoding="utf-8") as source:
        return ast.parse(source.read())


def head(function):
    return f"{function.name}({ast.unparse(function.args)})"


class Interface(unittest.TestCase):

    def test_functions_are_defined_in_their_files(self):
        for module, heads in FUNCTIONS.items():
            found = [head(node) for node in tree_of(module).body if isinstance(node, ast.FunctionDef)]
            for told in heads:
                self.assertIn(told, found, module)

    def test_classes_are_defined_in_their_files_with_their_methods(self):
        for module, classes in CLASSES.items():
            found = {node.name: node for node in tree_of(module).body if isinstance(node, ast.ClassDef)}
            for name, methods in classes.items():
                told = [head(node) for node in found[name].body if isinstance(node, ast.FunctionDef)]
                for method in methods:
                    self.assertIn(method, told, name)

    def test_errors_stand_right_below_one(self):
        found = {node.name: node for node in tree_of("errors").body if isinstance(node, ast.ClassDef)}
        for name, node in found.items():
            base = "ValueError" if name == "PeristyleError" else "PeristyleError"
            self.assertEqual([part.id for part in node.bases], [base])

    def test_errors_have_their_fields(self):
        from entablature.errors import BadForm, BadKind, BadName, BadText, PeristyleError, TooMuch
        for made in (BadText(3), BadName(4), BadKind(-1)):
            self.assertIsInstance(made, PeristyleError)
            self.assertIsInstance(made, ValueError)
        self.assertEqual((BadText(3).at, BadName(4).at, BadKind(-1).at), (3, 4, -1))
        self.assertIsInstance(BadForm(), PeristyleError)
        self.assertIsInstance(TooMuch(), PeristyleError)


if __name__ == "__main__":
    unittest.main()
