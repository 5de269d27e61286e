"""The interface of DOC.md: names, parameters with their defaults, and where each is defined."""

import importlib
import inspect
import unittest

# For each file its functions and classes, and for each class its methods.
INTERFACE = {
    "frames": {
        "Frames": {
            "": "(many)", "take": "(words=None)", "share": "(frame)", "drop": "(frame)",
            "peek": "(frame, offset)", "poke": "(frame, offset, word)", "page": "(frame)", "holds": "(frame)",
            "many": "property", "free": "property",
        },
    },
    "spaces": {
        "Plain": {
            "": "(pages, words=())", "read": "(address)", "write": "(address, word)", "contents": "()",
            "pages": "property",
        },
        "Space": {
            "": "(frames, *, pages=4)", "read": "(address)", "write": "(address, word)", "contents": "()",
            "table": "()", "fork": "()", "close": "()", "__getitem__": "(at)", "__setitem__": "(at, worth)",
            "__contains__": "(x)", "pages": "property",
        },
    },
    "instructions": {"code_of": "(instruction)", "instruction_of": "(word)"},
    "source": {"read_source": "(text)", "print_source": "(rows)"},
    "assembler": {
        "assemble": "(rows)", "disassemble": "(words, *, labels=())", "reach": "(words, start=0)",
    },
    "machine": {
        "step": "(core, memory)", "run_alone": "(core, contents, answers, *, limit=200)",
    },
    "ages": {
        "Ages": {
            "": "()", "enter": "(pid, priority=3, *, ready=True)", "leave": "(pid)", "wake": "(pid)",
            "sleep": "(pid)", "lend": "(pid, priority=0)", "pick": "()", "priority": "(pid)", "age": "(pid)",
            "rows": "()", "state": "()", "__contains__": "(x)", "bound": "static (priority, count=8)",
            "restored": "static (state)",
        },
        "is_pick_log": "(log)", "longest_wait": "(log, pid)",
    },
    "keeper": {
        "Keeper": {
            "": "(frames, slots)", "admit": "(owner, pages=4, words=())", "fork": "(parent, child)",
            "dismiss": "(owner)", "read": "(owner, address)", "write": "(owner, address, word)",
            "contents": "(owner)", "table": "(owner)", "tables": "()", "certificate": "()", "state": "()",
            "__contains__": "(x)", "moves": "property", "room_left": "property", "restored": "static (state)",
        },
        "Window": {
            "": "(keeper, owner)", "read": "(address)", "write": "(address, word)", "contents": "()",
            "pages": "property",
        },
    },
    "ownership": {
        "is_ownership": "(certificate, tables, *, frames, slots)", "shared_places": "(certificate)",
    },
    "gates": {
        "Gates": {
            "": "(seats)", "enter": "(pid, priority=3)", "leave": "(pid)",
            "acquire": "(pid, gate, *, cautious=False)", "release": "(pid, gate)", "withdraw": "(pid)",
            "effective": "(pid)", "holders": "(gate)", "queue": "(gate)", "held": "(pid)", "waiting": "(pid)",
            "waits": "()", "state": "()", "__contains__": "(x)", "restored": "static (state)",
        },
    },
    "waits": {
        "find_ring": "(waits)", "is_ring": "(ring, waits)", "find_order": "(waits)", "is_order": "(order, waits)",
        "find_cycle": "(waits)", "is_cycle": "(cycle, waits)",
    },
}
ERRORS = ["WardError", "SourceError", "BadArgument", "BadText", "LabelTwice", "LabelMissing", "TooLong", "Unknown",
          "Taken", "NotAllowed", "WrongState", "RingOfWaits", "Full", "Stopped"]


def told_of(member):
    """How the interface writes a member of a class: its parameters without self, or its sort."""
    if isinstance(member, property):
        return "property"
    if isinstance(member, staticmethod):
        return "static " + str(inspect.signature(member.__func__))
    signature = inspect.signature(member)
    return str(signature.replace(parameters=list(signature.parameters.values())[1:]))


class InterfaceTest(unittest.TestCase):
    def test_functions_and_classes(self):
        for module_name, names in INTERFACE.items():
            module = importlib.import_module("wardwork." + module_name)
            for name, told in names.items():
                thing = vars(module)[name]
                self.assertEqual(module.__name__, thing.__module__, name)
                if inspect.isclass(thing):
                    self.same_class(thing, told)
                else:
                    self.assertEqual(told, str(inspect.signature(thing)), name)

    def same_class(self, made, members):
        for name, told in members.items():
            with self.subTest(made=made.__name__, member=name):
                if name == "":
                    self.assertEqual(told, str(inspect.signature(made)))
                else:
                    # The member stands in the class itself, not in a base class.
                    self.assertEqual(told, told_of(vars(made)[name]))

    def test_errors(self):
        module = importlib.import_module("wardwork.errors")
        for name in ERRORS:
            self.assertEqual("wardwork.errors", vars(module)[name].__module__)


if __name__ == "__main__":
    unittest.main()
