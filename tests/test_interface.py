"""The names, parameters and files of the interface."""

import ast
import unittest
from importlib import import_module
from inspect import isgeneratorfunction, signature
from pathlib import Path

ROOT = Path(__file__).resolve().parent.parent

FUNCTIONS = {
    "caseflow.nets.nets": {
        "is_net": "(value)", "is_workflow": "(value)", "make_net": "(places, *steps)", "net_defects": "(net)",
        "step_names": "(net)", "inputs_of": "(net, name)", "outputs_of": "(net, name)",
    },
    "caseflow.nets.clusters": {
        "clusters": "(workflow)", "cluster_of": "(workflow, name)", "steps_into": "(net, place)",
        "steps_out_of": "(net, place)",
    },
    "caseflow.nets.runs": {
        "is_marking": "(net, value)", "first_marking": "(net)", "last_marking": "(net)",
        "enabled_steps": "(net, marking)", "enabled_clusters": "(workflow, marking)", "is_run": "(net, value)",
        "is_complete": "(workflow, value)", "marking_after": "(net, run, *, marking=None)",
        "markings_on": "(net, run, *, marking=None)", "all_runs": "(net, *, length)",
        "reachable_markings": "(net, *, limit=4096)",
    },
}
CONSTANTS = {
    "caseflow.nets.nets": {"MAX_PLACES": 30, "MAX_STEPS": 40},
    "caseflow.nets.runs": {"MAX_MARKINGS": 4096, "MAX_MET": 256, "MAX_TOKENS": 10 ** 9},
}
ERRORS = (
    "FlowError", "InvalidNet", "InvalidWorkflow", "InvalidMarking", "InvalidPlaces", "InvalidOrder", "InvalidPlan",
    "InvalidChances", "InvalidCosts", "InvalidLibrary", "InvalidTerm", "InvalidLog", "InvalidOperation",
    "ParseError", "InvalidCommand", "UnknownStep", "UnknownName", "InvalidRun", "InvalidNumber", "TooMany", "NotSound",
)


def defined(module):
    """Returns the names of the functions and classes that the file of the module defines."""
    tree = ast.parse((ROOT / (module.replace(".", "/") + ".py")).read_text())
    return [node.name for node in tree.body if isinstance(node, (ast.FunctionDef, ast.ClassDef))]


class Interface(unittest.TestCase):

    def test_parameters(self):
        for module, functions in FUNCTIONS.items():
            for name, parameters in functions.items():
                with self.subTest(name):
                    self.assertEqual(str(signature(getattr(import_module(module), name))), parameters)

    def test_files(self):
        for module, functions in FUNCTIONS.items():
            self.assertEqual([name for name in functions if name not in defined(module)], [])
        self.assertEqual([name for name in ERRORS if name not in defined("caseflow.errors")], [])

    def test_constants(self):
        for module, constants in CONSTANTS.items():
            for name, value in constants.items():
                self.assertEqual(getattr(import_module(module), name), value)
                self.assertIs(type(getattr(import_module(module), name)), int)

    def test_generators(self):
        for module, functions in FUNCTIONS.items():
            for name in functions:
                found = isgeneratorfunction(getattr(import_module(module), name))
                self.assertEqual(found, name == "all_runs", name)


if __name__ == "__main__":
    unittest.main()
