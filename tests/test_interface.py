"""The names and arguments of the document's interface."""

import importlib
import inspect
import unittest

FUNCTIONS = {
    "valleys": {"peaks": "(profile)", "valleys": "(profile)", "rims": "(profile, valley)", "lakes": "(profile)"},
    "volumes": {"volume_up_to": "(profile, first, last, level)", "level_for": "(profile, first, last, volume)"},
    "courses": {"course": "(flood, amount, *, weights=None)",
                "check_course": "(flood, amount, course, *, weights=None)"},
    "amounts": {"events": "(profile)", "flood_after": "(profile, amount)", "end_surfaces": "(profile)",
                "end_volume": "(profile)", "end_amount": "(profile)", "amount_to_reach": "(profile, column, depth)",
                "amount_to_exceed": "(profile, column, depth)", "amount_to_store": "(profile, volume)",
                "fitting_amounts": "(profile, observations)"},
    "dams": {"dam_gain": "(profile, column, height)", "best_dam": "(profile, height)"},
    "tables": {"table": "(flood)"},
    "scripts": {"tokens": "(text)", "parse_script": "(text)", "script_text": "(statements)",
                "run_script": "(flood, text, *, limit=1000)"},
    "journals": {"journal": "(session)", "recovered": "(text)"},
    "texts": {"profile_text": "(profile)", "parse_profile": "(text)", "flood_text": "(flood)"},
}
METHODS = {
    ("ratios", "Ratio"): {"__init__": "(self, numerator, denominator=1)", "over": "(self, other)", "floor": "(self)",
                          **{f"__{name}__": "(self, other)" for name in (
                              "add radd sub rsub mul rmul lt le gt ge eq ne").split()},
                          **{f"__{name}__": "(self)" for name in "neg abs bool str repr".split()}},
    ("profiles", "Profile"): {"__init__": "(self, heights, widths=None)", "mirrored": "(self)",
                              "scaled": "(self, height=1, width=1)", "raised": "(self, column, height)",
                              "__add__": "(self, other)", "__eq__": "(self, other)", "__len__": "(self)",
                              "__repr__": "(self)"},
    ("floods", "Flood"): {"__init__": "(self, profile)", "rain": "(self, amount, *, weights=None)",
                          "pour": "(self, column, volume)", "pump": "(self, column, volume)", "dry": "(self, depth)",
                          "levels": "(self)", "bodies": "(self)", "is_full": "(self, valley)",
                          "surface": "(self, column)", "depth": "(self, column)", "clone": "(self)",
                          "__contains__": "(self, x)", "__eq__": "(self, other)"},
    ("tables", "Gauge"): {"__init__": "(self, column)", "__call__": "(self, flood)", "__eq__": "(self, other)"},
    ("session", "Session"): {"__init__": "(self, profile)", "rain": "(self, amount, *, weights=None)",
                             "pour": "(self, column, volume)", "pump": "(self, column, volume)",
                             "dry": "(self, depth)", "flood": "(self)", "undo": "(self, count=1)",
                             "redo": "(self, count=1)", "history": "(self)", "preview": "(self, operations)",
                             "clone": "(self)", "__eq__": "(self, other)", "__len__": "(self)"},
    ("cascades", "Cascade"): {"__init__": "(self, profiles, links)", "rain": "(self, amount, *, weights=None)",
                              "pour": "(self, name, column, volume)", "flood": "(self, name)", "names": "(self)",
                              "clone": "(self)", "__eq__": "(self, other)"},
    ("console", "Console"): {"__init__": "(self)", "execute": "(self, command)", "__len__": "(self)"},
}
PROPERTIES = {
    ("ratios", "Ratio"): ["top", "bottom"],
    ("profiles", "Profile"): ["heights", "widths"],
    ("floods", "Flood"): ["stored", "left", "right", "taken", "profile"],
    ("tables", "Gauge"): ["column"],
    ("cascades", "Cascade"): ["stored", "gone"],
}


def module(name):
    return importlib.import_module("rainvalleys." + name)


class InterfaceTest(unittest.TestCase):
    def test_functions(self):
        for file, functions in FUNCTIONS.items():
            for name, arguments in functions.items():
                function = vars(module(file))[name]
                self.assertEqual(str(inspect.signature(function)), arguments, name)
                self.assertEqual(function.__module__, "rainvalleys." + file)

    def test_methods_stand_in_the_class_itself(self):
        for (file, name), methods in METHODS.items():
            found = vars(module(file))[name]
            self.assertEqual(found.__module__, "rainvalleys." + file)
            for method, arguments in methods.items():
                self.assertEqual(str(inspect.signature(vars(found)[method])), arguments, method)

    def test_parse_is_a_class_method(self):
        found = vars(module("ratios").Ratio)["parse"]
        self.assertIsInstance(found, classmethod)
        self.assertEqual(str(inspect.signature(module("ratios").Ratio.parse)), "(text)")

    def test_all_files_of_the_interface(self):
        files = {*FUNCTIONS, *[file for file, name in METHODS], "errors"}
        self.assertEqual(len(files), 16)
        for file in files:
            self.assertEqual(module(file).__name__, "rainvalleys." + file)

    def test_properties_stand_in_the_class_itself(self):
        for (file, name), properties in PROPERTIES.items():
            for attribute in properties:
                self.assertIsInstance(vars(vars(module(file))[name])[attribute], property)


if __name__ == "__main__":
    unittest.main()
