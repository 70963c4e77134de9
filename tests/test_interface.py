"""The interface: what stands in which file, and the names of parameters."""

import ast
import inspect
import unittest
from importlib import import_module
from pathlib import Path

import knownways

FOLDER = Path(knownways.__file__).parent

# For each module its functions and classes, with the parameters that may be passed by name.
LISTED = {
    "errors": {"WaysError": None, "InvalidStep": ["word"], "InvalidTrait": ["word"], "InvalidExpr": ["word"],
               "InvalidRow": ["word"], "InvalidText": ["at"], "InvalidWorld": ["word"], "InvalidStart": ["name"],
               "InvalidClaim": ["word"], "NoName": ["name"], "NoStep": ["name"], "NoRow": ["at"], "Impossible": None},
    "exprs": {"Expr": None, "named": ["word"]},
    "steps": {"Step": ["name", "ways"], "Chain": ["*steps"]},
    "traits": {"Trait": ["word", "*steps"], "Traits": ["*traits"]},
    "exprreader": {"read_expr": ["text", "steps"]},
    "rows": {"Row": None, "Put": ["name", "expr"], "Raise": ["name", "expr"], "Lower": ["name", "expr"],
             "Refuse": ["word"], "If": ["left", "right", "rows", "others=()"], "Still": ["rows"]},
    "programs": {"Program": ["rows=()"], "Draft": []},
    "reader": {"read": ["text", "steps"]},
    "worlds": {"World": ["size", "tables"], "worlds": ["steps", "size", "traits=None"]},
    "running": {"run": ["program", "world", "start"], "Ending": None},
    "comparisons": {"Comparison": ["left", "sign", "right"]},
    "claims": {"Claim": None, "Alike": ["p", "q", "*names", "supposed=()"],
               "NeverAbove": ["p", "q", "name", "supposed=()"], "Rises": ["p", "out", "into", "supposed=()"],
               "Falls": ["p", "out", "into", "supposed=()"], "NeverRefuses": ["p", "*words", "supposed=()"],
               "Always": ["p", "comparison", "supposed=()"], "NeverTaken": ["p", "at", "side", "supposed=()"]},
    "deciding": {"holds": ["claim", "traits=None"], "breach": ["claim", "traits=None"], "Breach": None},
    "trees": {"tree": ["claim", "traits=None"], "tree_holds": ["claim", "traits", "told"]},
    "treetexts": {"show_tree": ["told"], "read_tree": ["text"]},
    "needed": {"least_traits": ["claim", "traits"], "greatest_failing": ["claim", "traits"]},
    "settling": {"settle_alike": ["rows", "others", "traits=None"], "least_rows": ["rows", "traits=None"],
                 "rounds": ["rows"]},
    "orders": {"best_orders": ["steps", "traits=None"], "compare_chains": ["one", "other", "traits=None"]},
    "desk": {"Desk": ["traits=None"]},
}

METHODS = {
    ("steps", "Step", "__call__"): ["first", "second=None", "third=None"],
    ("steps", "Chain", "__call__"): ["part"],
    ("traits", "Traits", "is_part_of"): ["others"],
    ("programs", "Draft", "add"): ["row"],
    ("programs", "Draft", "program"): [],
    ("worlds", "World", "keeps"): ["traits"],
    ("worlds", "World", "value"): ["expr", "start"],
    ("comparisons", "Comparison", "holds"): ["world", "start"],
    ("claims", "Claim", "under"): ["*comparisons"],
    ("claims", "Claim", "fails"): ["world", "start", "other=None"],
    ("desk", "Desk", "change_traits"): ["traits"],
    ("desk", "Desk", "suppose"): ["comparison"],
    ("desk", "Desk", "take_back"): [],
    ("desk", "Desk", "supposing"): ["comparison"],
    ("desk", "Desk", "within"): ["comparison", "work"],
    ("desk", "Desk", "compare"): ["left", "right"],
    ("desk", "Desk", "is_sure"): ["comparison"],
    ("desk", "Desk", "holds"): ["claim"],
    ("desk", "Desk", "breach"): ["claim"],
}


def parameters(function, skip=0):
    return [str(one) for one in inspect.signature(function).parameters.values()][skip:]


def tree_of(module):
    return ast.parse((FOLDER / (module + ".py")).read_text())


class Interface(unittest.TestCase):

    def test_all_is_defined_in_its_file(self):
        for module, listed in LISTED.items():
            defined = [row.name for row in tree_of(module).body if isinstance(row, (ast.FunctionDef, ast.ClassDef))]
            for name in listed:
                self.assertIn(name, defined, module)

    def test_parameters_have_their_names(self):
        for module, listed in LISTED.items():
            for name, expected in listed.items():
                if expected is not None:
                    self.assertEqual(parameters(getattr(import_module("knownways." + module), name)), expected, name)

    def test_parameters_of_methods_have_their_names(self):
        for (module, name, method), expected in METHODS.items():
            kind = getattr(import_module("knownways." + module), name)
            self.assertEqual(parameters(vars(kind)[method], skip=1), expected, (name, method))

    def test_suppositions_are_passed_by_name_only(self):
        for name in LISTED["claims"]:
            if name != "Claim":
                listed = inspect.signature(getattr(import_module("knownways.claims"), name)).parameters
                self.assertIs(listed["supposed"].kind, inspect.Parameter.KEYWORD_ONLY)

    def test_the_package_file_has_a_docstring_only(self):
        rows = tree_of("__init__").body
        self.assertEqual(len(rows), 1)
        self.assertIsInstance(rows[0].value.value, str)


if __name__ == "__main__":
    unittest.main()
