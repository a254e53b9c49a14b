"""The interface: each function and class has the parameters that the document names, and stands in its own file."""

import importlib
import inspect
import unittest

INTERFACE = {
    "machines": """check_machine(thing, size); answer(machine, row); least_machine(machine); machines_parted(one, other);
        mapped(machine, mapping); turned(machine)""",
    "settings": "Setting(size, maps=None, asks=None, turning=False)",
    "records": "least_records(setting); least_rows(setting); record_of(setting, row); same_values(setting)",
    "tables": """check_table(setting, thing); check_records(setting, thing); check_wrong(setting, table, ask, recipe);
        row_of(setting, expression); worked(setting, table, expression); cover(setting, table)""",
    "partings": """in_context(setting, context, row); parted(setting, row, other);
        check_parting(setting, row, other, thing)""",
    "tags": """least_tags(setting); tag_words(setting); tag_of(setting, deeds); deeds_parted(setting, deeds, other);
        check_tags(setting, table, thing); cover_tags(setting, table, tags)""",
    "plans": """run(setting, plan, row); form_of(setting, plan, length); plans_parted(setting, plan, other, length);
        idle(setting, plan, length); swaps(setting, plan, length); plans_told(setting, plan, other, length);
        plan_of(setting, form)""",
    "trees": """planted(setting, row); split(setting, tree, place); late(setting, tree, deed, start, stop);
        neat(setting, tree); pieces(length, start, stop)""",
    "needs": """untold(setting, ask); check_untold(setting, ask, thing); enough(setting); unfree(setting, deed);
        check_unfree(setting, deed, thing); enough_deeds(setting)""",
    "kept": "Kept(setting, row=())",
    "writing": "written(setting); read(text)",
}
METHODS = {
    "settings.Setting": """after(self, deeds, row); answer(self, ask, row); without_ask(self, name);
        without_deed(self, name); __eq__(self, other)""",
    "kept.Kept": """do(self, deed, start, stop); put(self, place, row); cut(self, start, stop); undo(self);
        ask(self, name, start, stop); record(self, start, stop); first(self, name, wanted, start);
        how_many(self, name, wanted); copy(self); row(self); __len__(self); __eq__(self, other)""",
}


class TestInterface(unittest.TestCase):
    def test_parameters_and_files(self):
        for name, lines in INTERFACE.items():
            module = importlib.import_module("lazytags." + name)
            for line in lines.split(";"):
                title, _, parameters = line.strip().partition("(")
                thing = getattr(module, title)
                self.assertEqual(thing.__module__, "lazytags." + name, title)
                self.assertEqual(str(inspect.signature(thing)), "(" + parameters, title)

    def test_methods(self):
        for place, lines in METHODS.items():
            module, title = place.split(".")
            owner = getattr(importlib.import_module("lazytags." + module), title)
            for line in lines.split(";"):
                name, _, parameters = line.strip().partition("(")
                self.assertEqual(str(inspect.signature(vars(owner)[name])), "(" + parameters, name)

    def test_properties(self):
        owner = importlib.import_module("lazytags.settings").Setting
        for name in ["size", "maps", "asks", "turning", "deeds"]:
            self.assertIsInstance(vars(owner)[name], property)


if __name__ == "__main__":
    unittest.main()
