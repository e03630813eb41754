"""The names and arguments of the interface stand in the files under which they are listed."""

import ast
import importlib
import pathlib
import unittest

PACKAGE = pathlib.Path(__file__).resolve().parent.parent / "widthwise"

FUNCTIONS = {
    "parts": {
        "is_part": ["thing"], "part_of": ["top", "bottom"], "added": ["one", "other"],
        "less": ["one", "other"], "product": ["one", "other"], "quotient": ["one", "other"],
        "is_more": ["one", "other"], "lesser": ["one", "other"], "greater": ["one", "other"],
        "part_text": ["part"], "read_part": ["text"],
    },
    "spans": {
        "is_spans": ["thing"], "spans_of": ["pairs"], "united": ["one", "other"],
        "common": ["one", "other"], "outside": ["one"], "has": ["one", "width"],
    },
    "boxes": {"box_of": ["tree"]},
    "texts": {"written": ["box"], "read_box": ["text"]},
    "sharing": {
        "is_item": ["thing"], "width_at": ["item", "share"], "shared": ["items", "room"],
        "is_shared": ["items", "room", "widths"],
    },
    "lines": {
        "broken": ["wishes", "gap", "width"], "goes_into": ["wishes", "gap", "width"],
        "fewest": ["wishes", "gap", "width"],
    },
    "laying": {"laid": ["box", "width"], "lines_of": ["box", "width", "name"], "stands_out": ["box", "width"]},
    "finding": {
        "at_point": ["layout", "x", "y"], "innermost": ["layout", "x", "y"],
        "crossing": ["layout", "x", "y", "wide", "tall"], "place_of": ["layout", "name"],
        "beside": ["layout", "one", "other"],
    },
    "widths": {
        "line_at": ["line", "width"], "share_pieces": ["items"], "all_laid": ["box"], "read_at": ["pieces", "width"],
    },
    "changes": {"changed": ["box", "change"]},
    "desk": {"answers": ["text"]},
}

CLASSES = {
    "errors": [
        "WideError", "NoPart", "NoSpan", "NoBox", "NoText", "NoItem", "NoName", "NoWish",
        "NoChange", "NoRow", "TooMany",
    ],
    "boxes": ["Box", "Plain", "Row", "Column"],
    "wishes": ["Wish", "Wide", "InLines", "Within", "Same", "Both", "Either", "Not"],
    "changes": ["Sheet"],
    "desk": ["Desk"],
}

BOX_METHODS = {
    "tree": [], "name": [], "sizes": [], "kids": [], "names": [], "found": ["name"], "gap": [], "lean": [],
    "breaks": [], "tall": [],
}

WISH_METHODS = {"told": [], "holds": ["box", "width"], "widths": ["box"]}

METHODS = {
    "boxes": {"Box": BOX_METHODS, "Plain": BOX_METHODS, "Row": BOX_METHODS, "Column": BOX_METHODS},
    "wishes": {
        "Wish": WISH_METHODS,
        "Wide": dict(WISH_METHODS, __init__=["name", "least"]),
        "InLines": dict(WISH_METHODS, __init__=["name", "most"]),
        "Within": dict(WISH_METHODS, __init__=["name"]),
        "Same": dict(WISH_METHODS, __init__=["one", "other"]),
        "Both": dict(WISH_METHODS, __init__=["one", "other"]),
        "Either": dict(WISH_METHODS, __init__=["one", "other"]),
        "Not": dict(WISH_METHODS, __init__=["one"]),
    },
    "changes": {
        "Sheet": {
            "__init__": ["box", "width"], "box": [], "width": [], "change": ["change"], "widen": ["width"], "undo": [],
            "redo": [], "laid": [], "layings": [],
        },
    },
    "desk": {"Desk": {"__init__": [], "say": ["row"]}},
}


def defined(name, kind):
    """What a file of the package defines of a kind at module level, by name."""
    tree = ast.parse((PACKAGE / f"{name}.py").read_text())
    return {node.name: node for node in tree.body if isinstance(node, kind)}


class InterfaceTest(unittest.TestCase):

    def test_functions_with_their_arguments(self):
        for file, functions in FUNCTIONS.items():
            found = defined(file, ast.FunctionDef)
            for name, arguments in functions.items():
                told = found[name].args
                self.assertEqual([one.arg for one in told.args], arguments, name)
                self.assertFalse(told.posonlyargs or told.kwonlyargs or told.vararg or told.kwarg)
                # The default of part_of's bottom is the only one.
                self.assertEqual(len(told.defaults), 1 if name == "part_of" else 0, name)

    def test_classes(self):
        for file, classes in CLASSES.items():
            found = defined(file, ast.ClassDef)
            for name in classes:
                self.assertIn(name, found)

    def test_methods_stand_in_the_bodies_of_their_classes(self):
        for file, classes in METHODS.items():
            found = defined(file, ast.ClassDef)
            for name, methods in classes.items():
                own = {node.name: node for node in found[name].body if isinstance(node, ast.FunctionDef)}
                for method, arguments in methods.items():
                    told = own[method].args
                    self.assertEqual([one.arg for one in told.args], ["self"] + arguments, (name, method))
                    self.assertFalse(told.posonlyargs or told.kwonlyargs or told.vararg or told.kwarg or told.defaults)

    def test_all_can_be_imported_by_the_files_names(self):
        for table in (FUNCTIONS, CLASSES):
            for file, names in table.items():
                module = importlib.import_module(f"widthwise.{file}")
                for name in names:
                    self.assertTrue(callable(getattr(module, name)), name)


if __name__ == "__main__":
    unittest.main()
