"""The interface: where its names are defined, and the names of their parameters."""

import inspect
import os
import unittest
from importlib import import_module

CLASSES = {
    ("errors", "MeshError"): {},
    ("errors", "NotAMesh"): {"__init__": []},
    ("errors", "BadLine"): {"__init__": ["line"]},
    ("errors", "UnknownName"): {"__init__": ["line", "name"]},
    ("errors", "WrongKind"): {"__init__": ["line", "name"]},
    ("errors", "FactFails"): {"__init__": ["line"]},
    ("errors", "Broken"): {"__init__": ["fault", "line"]},
    ("errors", "NeverGiven"): {"__init__": []},
    ("errors", "Breaks"): {"__init__": ["mesh", "halves"]},
    ("errors", "UnknownDeed"): {"__init__": ["name"]},
    ("errors", "UnknownMark"): {"__init__": ["name"]},
    ("errors", "NothingToUndo"): {"__init__": []},
    ("meshes", "Mesh"): {
        "__init__": ["nexts"], "__eq__": ["other"], "__len__": [], "__contains__": ["half"],
        "after": ["half"], "before": ["half"], "twin": ["half"], "turned": ["half"],
        "nexts": [], "faces": [], "corners": [], "pieces": [], "counts": [], "text": [],
        "is_one_face": ["first", "second"], "is_one_corner": ["first", "second"],
    },
    ("texts", "Routine"): {"__len__": []},
    ("books", "Script"): {"__len__": [], "routine": ["name"]},
    ("books", "Book"): {"__getitem__": ["name"], "__contains__": ["name"], "__len__": [], "names": []},
    ("fillings", "Partial"): {"__init__": ["nexts"], "nexts": [], "exits": [], "entries": []},
    ("live", "LiveMesh"): {
        "__init__": ["book", "mesh"], "mark": ["name", "half"], "half": ["name"], "marks": [],
        "run": ["name", "*marks", "tells=()"], "run_all": ["calls"], "undo": [],
    },
}
FUNCTIONS = {
    ("meshes", "read_mesh"): ["text"],
    ("likeness", "numbered"): ["mesh", "halves"],
    ("likeness", "renaming"): ["first", "second", "pairs"],
    ("likeness", "small_meshes"): ["edges", "named"],
    ("texts", "is_name"): ["text"],
    ("texts", "read_routine"): ["text"],
    ("runs", "run"): ["deed", "mesh", "halves"],
    ("books", "read_book"): ["text"],
    ("fillings", "filled"): ["partial", "faces", "corners", "joined=()"],
    ("fillings", "needed_edges"): ["partial", "faces", "corners", "joined=()"],
    ("pictures", "picture"): ["routine", "mesh", "halves"],
    ("pictures", "pictures"): ["routine"],
    ("judging", "breaks"): ["deed"],
    ("changes", "changes"): ["deed"],
    ("comparing", "parting"): ["first", "second"],
    ("comparing", "needless"): ["routine"],
    ("facts", "needed_facts"): ["routine", "facts"],
}
TOP = os.path.join(os.path.dirname(os.path.abspath(__file__)), "..", "halfmeshes")
FILES = sorted(name[:-3] for name in os.listdir(TOP) if name.endswith(".py") and name != "__init__.py")


def found(file, name):
    return getattr(import_module("halfmeshes." + file), name)


class Interface(unittest.TestCase):
    def check(self, function, names):
        parameters = list(inspect.signature(function).parameters.values())
        self.assertEqual([str(one) for one in parameters], names)
        for one in parameters:
            if "*" not in str(one):
                self.assertIs(one.kind, one.KEYWORD_ONLY if "=" in str(one) else one.POSITIONAL_OR_KEYWORD)

    def test_functions(self):
        for (file, name), names in FUNCTIONS.items():
            self.assertEqual(found(file, name).__module__, "halfmeshes." + file)
            self.check(found(file, name), names)

    def test_classes(self):
        for (file, name), methods in CLASSES.items():
            self.assertEqual(found(file, name).__module__, "halfmeshes." + file)
            for method, names in methods.items():
                self.check(vars(found(file, name))[method], ["self"] + names)

    def test_modules_keep_no_state(self):
        for file in FILES:
            values = [value for key, value in vars(import_module("halfmeshes." + file)).items()
                      if not key.startswith("__")]
            self.assertFalse([value for value in values if isinstance(value, (list, set))])
            for table in [value for value in values if isinstance(value, dict)]:
                self.assertTrue(all(inspect.isfunction(value) or isinstance(value, str) for value in table.values()))


if __name__ == "__main__":
    unittest.main()
