"""The interface: names, the files that define them, and their arguments by place."""

import ast
import pathlib
import unittest

import kindsgathered

FOLDER = pathlib.Path(kindsgathered.__file__).parent

FUNCTIONS = {
    "fractions.py": {
        "is_fraction": ["thing"], "lowest": ["top", "bottom"], "added": ["one", "other"],
        "lessened": ["one", "other"], "multiplied": ["one", "other"], "is_less": ["one", "other"],
    },
    "shares.py": {"is_shares": ["thing"], "total": ["shares"], "part": ["shares", "some"]},
    "texts.py": {"show": ["shares"], "read": ["text"]},
    "coming.py": {
        "just_cases": ["shares", "some", "number"], "all_share": ["shares", "number"],
        "last_share": ["shares", "number"], "lacking": ["shares", "number"], "mean_all": ["shares"],
    },
    "papers.py": {
        "is_time_paper": ["thing", "shares"], "time_paper": ["shares"], "over_bound": ["thing", "shares"],
        "under_bound": ["thing", "shares"],
    },
    "needs.py": {
        "are_needs": ["thing", "shares"], "mean_needs": ["shares", "needs"],
        "needs_share": ["shares", "needs", "number"], "mean_any": ["shares", "needs"],
    },
    "packs.py": {
        "pack_many": ["many", "size"], "pack_cases": ["many", "size", "number"], "pack_mean": ["many", "size"],
        "is_pack_paper": ["thing", "many", "size"], "pack_paper": ["many", "size"],
    },
    "orders.py": {
        "order_chance": ["shares", "order"], "last_chances": ["shares"], "ahead_chance": ["shares", "one", "other"],
        "unlike_share": ["shares", "number"], "twice_mean": ["shares"], "mean_kinds": ["shares", "number"],
    },
    "gatherers.py": {
        "rounds_mean": ["shares", "many"], "together_mean": ["shares", "many"], "given_lacking": ["shares"],
        "given_share": ["shares"],
    },
    "buying.py": {
        "is_plan": ["thing", "shares"], "plan_cost": ["shares", "price", "plan"],
        "is_cost_paper": ["thing", "shares", "price"], "cost_paper": ["shares", "price"],
        "plan_for": ["shares", "price"],
    },
    "changes.py": {
        "joined": ["shares", "one", "other"], "parted": ["shares", "kind", "number"],
        "evened": ["shares", "one", "other"], "named": ["shares", "order"], "is_quicker": ["shares", "other"],
    },
}

CLASSES = {
    "errors.py": [
        "GatherError", "NoShares", "NoKind", "NoNumber", "NoNeeds", "NoPlan", "TooMany", "NoLine", "NoText"],
    "desk.py": ["Desk"],
}


def defined(name, kind):
    tree = ast.parse((FOLDER / name).read_text(encoding="ascii"))
    return {node.name: node for node in tree.body if isinstance(node, kind)}


class Interface(unittest.TestCase):

    def test_functions_are_defined_where_they_are_listed(self):
        for name, wanted in FUNCTIONS.items():
            found = defined(name, ast.FunctionDef)
            for function, places in wanted.items():
                self.assertIn(function, found)
                self.assertEqual([arg.arg for arg in found[function].args.args], places, function)

    def test_classes_are_defined_where_they_are_listed(self):
        for name, wanted in CLASSES.items():
            found = defined(name, ast.ClassDef)
            for each in wanted:
                self.assertIn(each, found)

    def test_methods_are_defined_in_their_class(self):
        desk = defined("desk.py", ast.ClassDef)["Desk"]
        methods = {node.name: node for node in desk.body if isinstance(node, ast.FunctionDef)}
        self.assertEqual([arg.arg for arg in methods["__init__"].args.args], ["self"])
        self.assertEqual([arg.arg for arg in methods["say"].args.args], ["self", "line"])


if __name__ == "__main__":
    unittest.main()
