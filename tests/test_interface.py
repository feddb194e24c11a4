"""The interface: names, parameters, and what is defined in which file and class."""

import importlib
import inspect

from tests.samples import Case

FUNCTIONS = {
    "kinds": {
        "is_integer": "(thing)", "is_number": "(thing)", "is_name": "(thing)", "is_cell_row": "(thing)",
        "is_expression": "(thing)", "is_rule": "(thing)",
    },
    "fitting": {"fits_expression": "(cells, thing, *, only_inputs=False)", "fits_rule": "(cells, thing)"},
    "programchecker": {"lets_program": "(thing)"},
    "cells": {"cell_names": "(cells)", "cell_ranges": "(cells)", "cell_index": "(cells, name, *, key=None)"},
    "expressions": {"value_in": "(cells, state, expression)", "looked_at": "(cells, state, expression)"},
    "rules": {"assigned": "(cells, rule, state)", "behind": "(cells, rule, state)", "looks_of": "(cells, rule, state)"},
    "ruleclasses": {
        "cell_row": "(name, low, high, *, size=0, first=None, is_input=False, is_shown=False)",
        "program_of": "(cells, *rules, pairs=(), starts=1)",
    },
    "programtexts": {
        "expression_text": "(expression)", "cell_text": "(row)", "rule_text": "(rule)", "program_text": "(program)",
    },
    "programreadings": {
        "expression_read": "(text, *, line=0, field=0)", "cell_read": "(text, *, line=0, field=0)",
        "rule_read": "(text, *, line=0, field=0)", "program_read": "(text)",
    },
    "states": {
        "count_states": "(program)", "all_states": "(program)", "state_number": "(program, state)",
        "state_at": "(program, number)", "starts_of": "(program)", "is_start": "(program, thing)",
        "start_of": "(program, **inputs)",
    },
    "moves": {"moves_of": "(program, rule)"},
    "effects": {"reads_of": "(program, rule)", "changes_of": "(program, rule)"},
    "effectpapers": {"effect_paper": "(program, rule)"},
    "effectchecker": {"lets_effects": "(program, rule, thing)"},
    "pairings": {
        "shared_cells": "(program, rule, other)", "are_apart": "(program, rule, other)",
        "commute": "(program, rule, other)", "differing_state": "(program, rule, other)",
    },
    "touchpapers": {"touch_paper": "(program, rule, other)"},
    "touchchecker": {"lets_touch": "(program, rule, other, thing)"},
    "orders": {
        "pairs_closed": "(program)", "is_before": "(program, rule, other)", "unordered_pairs": "(program)",
        "legal_orders": "(program)", "first_order": "(program)", "is_legal": "(program, thing)",
        "prefixes_of": "(program)", "next_rules": "(program, prefix)", "exchanges_of": "(program)",
    },
    "running": {
        "run_states": "(program, state, *rules)", "shown_in": "(program, state)",
        "result_of": "(program, start, order)", "outcomes_of": "(program, start)",
        "outcomes_with": "(program, start)", "is_settled": "(program)",
    },
    "arriving": {"arriving_at": "(program, prefix)"},
    "alike": {"alike_at": "(program, prefix)", "telling_order": "(program, prefix, one, other)"},
    "noticing": {
        "trace_of": "(program, prefix, one, other)", "noticed_exchanges": "(program)", "open_pairs": "(program)",
        "is_open_pair": "(program, one, other)", "different_orders": "(program)",
    },
    "deciding": {
        "decided": "(program, *decisions)", "unsettled_choice": "(program, *some)", "settles": "(program, *some)",
    },
    "asking": {"questions_needed": "(program)", "best_question": "(program)"},
    "openpapers": {"pair_paper": "(program, one, other)", "open_paper": "(program)"},
    "openchecker": {"lets_pair": "(program, one, other, thing)", "lets_open": "(program, thing)"},
    "codekinds": {"is_code": "(thing)"},
    "machines": {"run_alone": "(cells, code, state)"},
    "coding": {"code_of": "(program, rule)"},
    "codechecker": {"lets_code": "(program, rule, thing)"},
    "interleaving": {"interleaved": "(cells, state, codes, schedule)", "schedules_of": "(cells, state, codes)"},
    "layering": {
        "layers_of": "(program)", "lets_layers": "(program, thing)",
        "run_layers": "(program, state, layers, codes, *schedules)",
    },
    "leaving": {
        "without_rule": "(program, rule)", "matters": "(program, rule)", "left_out": "(program)",
        "lets_left": "(program, thing)", "matter_paper": "(program, rule)", "lets_matter": "(program, rule, thing)",
    },
    "folding": {"are_same": "(cells, one, other)", "folded": "(cells, expression)"},
    "records": {
        "record_of": "(program, order, start)", "again": "(program, record, start)", "record_result": "(program, record)",
    },
    "recordchecker": {"lets_record": "(program, thing)"},
    "replaying": {"is_log": "(thing)", "replayed": "(log)"},
    "steplines": {"step_line": "(step)", "log_lines": "(log)"},
    "linereadings": {"read_step": "(text)", "read_log": "(lines)"},
}

GENERATORS = {
    "states": ("all_states", "starts_of"), "orders": ("legal_orders", "exchanges_of"), "interleaving": ("schedules_of",),
}

PROPERTIES = ("program", "decided", "decisions", "inputs", "open_pairs", "is_settled", "result", "record")

METHODS = {
    "expressionclasses": {
        "Expression": {
            "form": "(self)", "__call__": "(self, cells, state)", "equals": "(self, other)", "below": "(self, other)",
            "up_to": "(self, other)", "least": "(self, other)", "most": "(self, other)", "rest": "(self, n)",
            "__add__": "(self, other)", "__sub__": "(self, other)", "__mul__": "(self, other)",
            "__floordiv__": "(self, other)", "__and__": "(self, other)", "__or__": "(self, other)",
            "__invert__": "(self)", "__neg__": "(self)", "__eq__": "(self, other)", "__str__": "(self)",
        },
        "Formed": {"__init__": "(self, form)", "read": "(text)"},
        "Cell": {"__init__": "(self, name)"},
        "Choice": {"__init__": "(self, test, one, other)"},
        "Clamped": {"form": "(self)"},
        "Scaled": {"form": "(self)"},
        "ClampedCell": {},
        "ScaledCell": {},
        "Gauge": {},
        "Lever": {},
        "Table": {"__init__": "(self, name)", "__getitem__": "(self, at)"},
    },
    "ruleclasses": {
        "Rule": {
            "__init__": "(self, name, *assignments, guard=1)", "setting": "(name, *, guard=1, **values)",
            "read": "(text)", "form": "(self)", "fits": "(self, cells)", "assigned": "(self, cells, state)",
            "__call__": "(self, cells, state)", "__contains__": "(self, x)", "__len__": "(self)",
            "__eq__": "(self, other)", "__str__": "(self)",
        },
    },
    "workshops": {
        "Workshop": {
            "__init__": "(self)", "of": "(program, *decisions)", "read": "(text)", "__getitem__": "(self, at)",
            "__contains__": "(self, x)", "__len__": "(self)", "__eq__": "(self, other)", "__ne__": "(self, other)",
            "__str__": "(self)", "__call__": "(self, step)", "go": "(self, step)", "add_cell": "(self, row)",
            "remove_cell": "(self, name)", "add_rule": "(self, rule)", "remove_rule": "(self, name)",
            "add_pair": "(self, one, other)", "remove_pair": "(self, one, other)", "set_starts": "(self, expression)",
            "decide": "(self, one, other)", "undecide": "(self, one, other)", "set_inputs": "(self, value)",
            "barred": "(self, step)", "implied": "(self)", "needless": "(self)", "choices": "(self)",
            "decide_by": "(self, *names)", "do_all": "(self, *steps, keep=False)", "tried": "(self, *steps)",
            "undo": "(self)", "log": "(self)", "counts": "(self)", "table": "(self)",
        },
    },
    "desk": {"Desk": {"__init__": "(self)", "say": "(self, text)", "counts": "(self)"}},
}


class InterfaceTest(Case):
    def test_functions(self):
        for module, functions in FUNCTIONS.items():
            found = importlib.import_module(f"orderless.{module}")
            for name, parameters in functions.items():
                self.assertEqual(str(inspect.signature(getattr(found, name))), parameters, name)
                self.assertEqual(getattr(found, name).__module__, found.__name__)

    def test_classes(self):
        for module, classes in METHODS.items():
            found = importlib.import_module(f"orderless.{module}")
            for name, methods in classes.items():
                one = getattr(found, name)
                self.assertEqual(one.__module__, found.__name__)
                for method, parameters in methods.items():
                    self.assertIn(method, vars(one), name)
                    self.assertEqual(str(inspect.signature(getattr(one, method))), parameters, (name, method))

    def test_class_methods(self):
        from orderless.expressionclasses import Formed
        from orderless.ruleclasses import Rule
        from orderless.workshops import Workshop
        for one, name in ((Formed, "read"), (Rule, "read"), (Rule, "setting"), (Workshop, "of"), (Workshop, "read")):
            self.assertIsInstance(vars(one)[name], classmethod)

    def test_generators(self):
        from orderless.workshops import Workshop
        for module, names in GENERATORS.items():
            for name in names:
                self.assertTrue(inspect.isgeneratorfunction(getattr(importlib.import_module(f"orderless.{module}"), name)))
        self.assertTrue(inspect.isgeneratorfunction(Workshop.choices))

    def test_properties_and_class_values(self):
        from orderless.workshops import Workshop
        for name in PROPERTIES:
            self.assertIsInstance(vars(Workshop)[name], property)
            self.assertIs(vars(Workshop)[name].fset is None, name != "inputs")
        self.same([vars(Workshop)[name] for name in ("CELLS", "STATES", "RULES")], [10, 256, 6])
