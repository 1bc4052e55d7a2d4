"""The names, parameters and files of the interface."""

import ast
import unittest
from importlib import import_module
from inspect import isgeneratorfunction, signature
from pathlib import Path

ROOT = Path(__file__).resolve().parent.parent

FUNCTIONS = {
    "caseflow.nets.nets": {
        "is_net": "(value)", "is_workflow": "(value)", "make_net": "(places, *steps)", "net_defects": "(net)",
        "step_names": "(net)", "inputs_of": "(net, name)", "outputs_of": "(net, name)",
    },
    "caseflow.nets.clusters": {
        "clusters": "(workflow)", "cluster_of": "(workflow, name)", "steps_into": "(net, place)",
        "steps_out_of": "(net, place)",
    },
    "caseflow.nets.runs": {
        "is_marking": "(net, value)", "first_marking": "(net)", "last_marking": "(net)",
        "enabled_steps": "(net, marking)", "enabled_clusters": "(workflow, marking)", "is_run": "(net, value)",
        "is_complete": "(workflow, value)", "marking_after": "(net, run, *, marking=None)",
        "markings_on": "(net, run, *, marking=None)", "all_runs": "(net, *, length)",
        "reachable_markings": "(net, *, limit=4096)",
    },
    "caseflow.algebra.weightings": {
        "effect": "(net, name)", "is_weighting": "(net, value)", "are_counts": "(net, value)",
        "are_growing_counts": "(net, value)", "are_rising_weights": "(net, value)", "weighting_basis": "(net)",
        "counts_basis": "(net)", "effect_rank": "(net)", "positive_weighting": "(net)", "growing_counts": "(net)",
        "positive_counts": "(net)", "rising_weights": "(net)",
    },
    "caseflow.algebra.siphons": {
        "is_siphon": "(net, value, *, closed=False)", "is_trap": "(net, value, *, closed=False)",
        "largest_siphon": "(net, places, *, closed=False)", "largest_trap": "(net, places, *, closed=False)",
        "empty_siphon": "(net, marking, *, closed=False)", "empty_trap": "(net, marking, *, closed=False)",
    },
    "caseflow.sound.tables": {"finish_table": "(workflow)", "is_finish_table": "(workflow, value)"},
    "caseflow.sound.papers": {
        "is_sound": "(workflow)", "structure_paper": "(workflow)", "is_structure_paper": "(workflow, value)",
    },
    "caseflow.sound.faults": {"find_fault": "(workflow)", "is_fault": "(workflow, value)"},
    "caseflow.cases.cases": {
        "normal_run": "(sound, run)", "same_case": "(sound, one, other)", "exchanges": "(sound, one, other)",
        "are_exchanges": "(sound, one, other, value)", "difference": "(sound, one, other)",
        "is_difference": "(sound, one, other, value)", "count_orders": "(sound, run)", "runs_of_case": "(sound, run)",
    },
    "caseflow.cases.numbers": {
        "count_cases": "(sound, length)", "case_at": "(sound, length, number)", "case_number": "(sound, complete)",
        "complete_cases": "(sound, *, longest=20)", "case_lengths": "(sound)",
    },
    "caseflow.readings.orders": {
        "is_order": "(sound, value)", "is_closed_plan": "(sound, value)", "order_plan": "(sound, *, order=None)",
        "ordered_run": "(sound, complete, *, order=None)", "planned_run": "(sound, complete, plan)",
        "weight_sum": "(sound, weights, *, order=None)", "is_weight_table": "(sound, weights, value)",
    },
    "caseflow.readings.chances": {
        "costs_of": "(workflow, *, default=1, **costs)", "chances_of": "(workflow, **weights)",
        "expected_cost": "(sound, *, chances=None, costs=None)",
        "cost_variance": "(sound, *, chances=None, costs=None)",
        "value_table": "(sound, *, chances=None, costs=None)",
        "is_value_table": "(sound, value, *, chances=None, costs=None)",
        "expected_counts": "(sound, *, chances=None)", "avoid_chance": "(sound, names, *, chances=None)",
        "pass_chance": "(sound, marking, *, chances=None)",
    },
    "caseflow.readings.extremes": {
        "least_paper": "(sound, *, costs=None)", "is_least_paper": "(sound, value, *, costs=None)",
        "greatest_paper": "(sound, *, costs=None)", "is_greatest_paper": "(sound, value, *, costs=None)",
    },
    "caseflow.readings.costs": {
        "count_of_cost": "(sound, cost, *, costs=None)", "free_loop": "(sound, cost, *, costs=None)",
        "is_free_loop": "(sound, cost, value, *, costs=None)",
        "chances_of_costs": "(sound, limit, *, chances=None, costs=None)",
    },
    "caseflow.library.library": {
        "is_library": "(value)", "used_names": "(library, name)", "full_cost": "(library, name)",
        "full_variance": "(library, name)", "full_counts": "(library, name)", "full_least": "(library, name)",
        "full_greatest": "(library, name)", "expand": "(library, name)",
    },
    "caseflow.terms.terms": {"workflow_term": "(workflow)"},
    "caseflow.terms.shapes": {
        "is_part": "(workflow, first, last, value)", "largest_part": "(workflow, first, last)",
        "part_workflow": "(workflow, first, last, names)", "collapse": "(workflow, first, last, names, name)",
    },
    "caseflow.editions.markings": {
        "occurs": "(sound, marking)", "occurrence_paper": "(sound, marking)",
        "is_occurrence_paper": "(sound, marking, value)",
    },
    "caseflow.editions.editions": {
        "edition_gap": "(old, new)", "cover": "(old, new)", "is_cover": "(old, new, value)",
        "moved_marking": "(old, new, marking, *, places=None)", "first_unmovable": "(old, new, *, places=None)",
    },
    "caseflow.office.logs": {
        "log_beginning": "(sound, log)", "completion": "(sound, log)", "least_alignment": "(sound, log)",
        "is_alignment": "(sound, log, value)", "correction_bound": "(sound, log)",
        "is_correction_bound": "(sound, log, value)",
    },
    "caseflow.text.formats": {
        "format_net": "(net)", "parse_net": "(text)", "format_library": "(library)", "parse_library": "(text)",
        "format_marking": "(net, marking)", "parse_marking": "(net, text)", "format_names": "(names)",
        "parse_names": "(text)", "format_fraction": "(fraction)", "parse_fraction": "(text)",
    },
}
CLASSES = {
    "caseflow.nets.walks": {"Walk": {
        "__init__": "(self, net)", "__len__": "(self)", "__str__": "(self)", "__eq__": "(self, other)",
        "put": "(self, run)", "do": "(self, *names)", "markings": "(self)", "back": "(self, many=1)",
    }},
    "caseflow.cases.numbers": {"Case": {
        "__init__": "(self, sound, run)", "__len__": "(self)", "__str__": "(self)", "__eq__": "(self, other)",
        "runs": "(self)", "then": "(self, *names)",
    }},
    "caseflow.terms.terms": {
        "Term": {
            "__len__": "(self)", "__str__": "(self)", "__eq__": "(self, other)", "walk": "(self)", "normalized": "(self)",
            "workflow": "(self)",
        },
        "Do": {"__init__": "(self, name)"}, "Sequence": {"__init__": "(self, *parts)"},
        "Choice": {"__init__": "(self, *parts)"}, "Parallel": {"__init__": "(self, *parts, fork, join)"},
        "Loop": {"__init__": "(self, body, *, enter, again, leave)"},
    },
    "caseflow.office.office": {"Office": {
        "__init__": "(self)", "__len__": "(self)", "__str__": "(self)", "__eq__": "(self, other)", "editions": "(self)",
        "cases": "(self)", "log": "(self)", "publish": "(self, workflow, *, chances=None, costs=None)",
        "start": "(self, case)", "close": "(self, case)", "do": "(self, case, *steps)",
        "move": "(self, case, edition, *, places=None)", "undo": "(self)", "redo": "(self)", "apply": "(self, operation)",
        "apply_all": "(self, operations)", "state": "(self, case)", "history": "(self, case)", "enabled": "(self, case)",
        "remaining": "(self, case)", "cheapest": "(self, case)", "worklist": "(self)", "wanted": "(self, **limits)",
        "movable": "(self, edition, *, places=None)",
    }},
    "caseflow.text.shell": {"Shell": {
        "__init__": "(self)", "__len__": "(self)", "__str__": "(self)", "__eq__": "(self, other)",
        "run": "(self, command)", "run_all": "(self, *commands)", "office": "(self)",
    }},
}
PROPERTIES = {
    "caseflow.nets.walks": {"Walk": {"marking": False, "next_steps": False, "names": True}},
    "caseflow.cases.numbers": {"Case": {"marking": False, "is_finished": False, "names": False}},
    "caseflow.terms.terms": {"Term": {"names": False, "depth": False, "places": False}},
    "caseflow.office.office": {"Office": {"edition": True, "running": False, "spent": False}},
}
CLASS_METHODS = {
    "caseflow.nets.walks": {"Walk": {"along": "(net, run)"}},
    "caseflow.cases.numbers": {"Case": {"numbered": "(sound, length, number)"}},
    "caseflow.terms.terms": {"Term": {"read": "(text)"}},
    "caseflow.office.office": {"Office": {"replayed": "(log)"}},
}
STATIC_METHODS = {"caseflow.nets.walks": {"Walk": {"is_long_enough": "(many)"}}}
CLASS_VALUES = {
    "caseflow.nets.walks": {"Walk": {"LONGEST": 400}},
    "caseflow.terms.terms": {"Term": {"MAX_STEPS": 40, "MAX_DEPTH": 8}},
    "caseflow.office.office": {"Office": {"MAX_EDITIONS": 8, "MAX_CASES": 20}},
}
GENERATORS = ("all_runs", "markings", "runs_of_case", "complete_cases", "runs", "walk", "worklist")
CONSTANTS = {
    "caseflow.nets.nets": {"MAX_PLACES": 30, "MAX_STEPS": 40},
    "caseflow.nets.runs": {"MAX_MARKINGS": 4096, "MAX_MET": 256, "MAX_TOKENS": 10 ** 9},
    "caseflow.readings.costs": {"MAX_COST": 1000},
    "caseflow.library.library": {"MAX_ENTRIES": 12, "MAX_TIMES": 10 ** 30},
    "caseflow.text.formats": {"MAX_DIGITS": 400},
}
ERRORS = (
    "FlowError", "InvalidNet", "InvalidWorkflow", "InvalidMarking", "InvalidPlaces", "InvalidOrder", "InvalidPlan",
    "InvalidChances", "InvalidCosts", "InvalidLibrary", "InvalidTerm", "InvalidLog", "InvalidOperation",
    "ParseError", "InvalidCommand", "UnknownStep", "UnknownName", "InvalidRun", "InvalidNumber", "TooMany", "NotSound",
)


def listed(table):
    """Yields each class of a table by its module, with the names that stand there for it."""
    for module, classes in table.items():
        for name, members in classes.items():
            yield getattr(import_module(module), name), members


def defined(module):
    """Returns the names of the functions and classes that the file of the module defines."""
    tree = ast.parse((ROOT / (module.replace(".", "/") + ".py")).read_text())
    return [node.name for node in tree.body if isinstance(node, (ast.FunctionDef, ast.ClassDef))]


class Interface(unittest.TestCase):

    def test_parameters(self):
        for module, functions in FUNCTIONS.items():
            for name, parameters in functions.items():
                with self.subTest(name):
                    self.assertEqual(str(signature(getattr(import_module(module), name))), parameters)

    def test_files(self):
        for module, functions in FUNCTIONS.items():
            self.assertEqual([name for name in functions if name not in defined(module)], [])
        self.assertEqual([name for name in ERRORS if name not in defined("caseflow.errors")], [])

    def test_constants(self):
        for module, constants in CONSTANTS.items():
            for name, value in constants.items():
                self.assertEqual(getattr(import_module(module), name), value)
                self.assertIs(type(getattr(import_module(module), name)), int)

    def test_generators(self):
        for module, functions in FUNCTIONS.items():
            for name in functions:
                found = isgeneratorfunction(getattr(import_module(module), name))
                self.assertEqual(found, name in GENERATORS, name)


class Classes(unittest.TestCase):

    def test_files(self):
        for module, classes in CLASSES.items():
            self.assertEqual([name for name in classes if name not in defined(module)], [])

    def test_methods(self):
        for found, methods in listed(CLASSES):
            for name, parameters in methods.items():
                self.assertEqual(str(signature(vars(found)[name])), parameters, name)
                self.assertEqual(isgeneratorfunction(vars(found)[name]), name in GENERATORS, name)

    def test_properties(self):
        for found, properties in listed(PROPERTIES):
            for name, can_be_assigned in properties.items():
                self.assertIsInstance(vars(found)[name], property)
                self.assertEqual(vars(found)[name].fset is not None, can_be_assigned, name)
                self.assertIsNone(vars(found)[name].fdel)

    def test_class_methods_and_static_methods(self):
        for table, kind in ((CLASS_METHODS, classmethod), (STATIC_METHODS, staticmethod)):
            for found, methods in listed(table):
                for name, parameters in methods.items():
                    self.assertIsInstance(vars(found)[name], kind)
                    self.assertEqual(str(signature(getattr(found, name))), parameters, name)

    def test_class_values(self):
        for found, values in listed(CLASS_VALUES):
            for name, value in values.items():
                self.assertEqual([type(vars(found)[name]), vars(found)[name]], [type(value), value])


if __name__ == "__main__":
    unittest.main()
