"""The interface of DOC.md: names, parameters with their defaults, and where each is defined."""

import importlib
import inspect
import unittest

# For each file its functions and classes, and for each class its methods.
INTERFACE = {
    "frames": {
        "Frames": {
            "": "(many)", "take": "(words=None)", "share": "(frame)", "drop": "(frame)",
            "peek": "(frame, offset)", "poke": "(frame, offset, word)", "page": "(frame)", "holds": "(frame)",
            "many": "property", "free": "property",
        },
    },
    "spaces": {
        "Plain": {
            "": "(pages, words=())", "read": "(address)", "write": "(address, word)", "contents": "()",
            "pages": "property",
        },
        "Space": {
            "": "(frames, *, pages=4)", "read": "(address)", "write": "(address, word)", "contents": "()",
            "table": "()", "fork": "()", "close": "()", "__getitem__": "(at)", "__setitem__": "(at, worth)",
            "__contains__": "(x)", "pages": "property",
        },
    },
    "instructions": {"code_of": "(instruction)", "instruction_of": "(word)"},
    "source": {"read_source": "(text)", "print_source": "(rows)"},
    "assembler": {
        "assemble": "(rows)", "disassemble": "(words, *, labels=())", "reach": "(words, start=0)",
    },
    "machine": {
        "step": "(core, memory)", "run_alone": "(core, contents, answers, *, limit=200)",
    },
    "ages": {
        "Ages": {
            "": "()", "enter": "(pid, priority=3, *, ready=True)", "leave": "(pid)", "wake": "(pid)",
            "sleep": "(pid)", "lend": "(pid, priority=0)", "pick": "()", "priority": "(pid)", "age": "(pid)",
            "rows": "()", "state": "()", "__contains__": "(x)", "bound": "static (priority, count=8)",
            "restored": "static (state)",
        },
        "is_pick_log": "(log)", "longest_wait": "(log, pid)",
    },
    "keeper": {
        "Keeper": {
            "": "(frames, slots)", "admit": "(owner, pages=4, words=())", "fork": "(parent, child)",
            "dismiss": "(owner)", "read": "(owner, address)", "write": "(owner, address, word)",
            "contents": "(owner)", "table": "(owner)", "tables": "()", "certificate": "()", "state": "()",
            "__contains__": "(x)", "moves": "property", "room_left": "property", "restored": "static (state)",
        },
        "Window": {
            "": "(keeper, owner)", "read": "(address)", "write": "(address, word)", "contents": "()",
            "pages": "property",
        },
    },
    "ownership": {
        "is_ownership": "(certificate, tables, *, frames, slots)", "shared_places": "(certificate)",
    },
    "gates": {
        "Gates": {
            "": "(seats)", "enter": "(pid, priority=3)", "leave": "(pid)",
            "acquire": "(pid, gate, *, cautious=False)", "release": "(pid, gate)", "withdraw": "(pid)",
            "effective": "(pid)", "holders": "(gate)", "queue": "(gate)", "held": "(pid)", "waiting": "(pid)",
            "waits": "()", "state": "()", "__contains__": "(x)", "restored": "static (state)",
        },
    },
    "waits": {
        "find_ring": "(waits)", "is_ring": "(ring, waits)", "find_order": "(waits)", "is_order": "(order, waits)",
        "find_cycle": "(waits)", "is_cycle": "(cycle, waits)",
    },
    "safety": {
        "find_safe_order": "(free, held, wanted)", "is_safe_order": "(order, free, held, wanted)",
        "find_stuck": "(free, held, wanted)", "is_stuck": "(stuck, free, held, wanted)",
        "Banker": {
            "": "(total, claims)", "ask": "(who, amount)", "give": "(who, amount)", "held": "()", "wanted": "()",
            "order": "()", "free": "property",
        },
    },
    "pipes": {
        "Pipe": {
            "": "(room=4)", "send": "(word)", "receive": "()", "state": "()", "__iter__": "()", "room": "property",
            "size": "property", "sent": "property", "received": "property", "restored": "static (state)",
        },
        "pack_letter": "(letter)", "unpack_letters": "(words)",
        "Sender": {"": "(pipe)", "post": "(letter)", "push": "(count=1)", "pending": "property"},
        "Receiver": {"": "(pipe)", "pull": "(count=1)", "partial": "property"},
    },
    "trunk": {
        "Trunk": {
            "": "(lanes=4, *, room=8)", "post": "(lane, words)", "push": "()", "pull": "()", "take": "(lane)",
            "contents": "()", "waiting": "(lane)", "state": "()", "restored": "static (state)",
        },
    },
    "disk": {
        "Disk": {
            "": "(blocks, *, stop=None)", "read": "(block)", "write": "(block, words)", "image": "()",
            "writes": "property", "loaded": "static (image, *, stop=None)",
        },
    },
    "journal": {
        "commit": "(disk, changes)", "recover": "(disk)", "pending": "(disk)", "settled": "(image)",
        "is_recovery": "(certificate, before, after)",
    },
    "files": {
        "Files": {
            "": "(disk)", "make_file": "(path)", "make_folder": "(path)", "write": "(path, words)",
            "link": "(path, new)", "erase": "(path)", "rename": "(path, new)", "read": "(path)", "listing": "(path)",
            "kind": "(path)", "links": "(path)", "tree": "()", "blocks_left": "()", "nodes_left": "()",
            "__contains__": "(x)", "WORDS": "40", "ENTRIES": "10", "NODES": "16",
        },
    },
    "soundness": {"is_sound": "(image)"},
    "rights": {
        "Rights": {
            "": "()", "root": "(holder, thing, marks='rwg')", "hand_on": "(number, to, marks)",
            "narrow": "(number, marks='')", "take_back": "(number)", "row": "(number)", "rows": "()",
            "held": "(holder)", "may": "(holder, thing, mark)", "who": "(thing, mark)", "above": "(number)",
            "state": "()", "__contains__": "(x)", "__iter__": "()", "restored": "static (state)",
        },
        "find_chain": "(rows, holder, thing, mark)", "is_chain": "(chain, rows, roots, holder, thing, mark)",
        "is_book": "(rows, roots)",
    },
    "phrases": {"parse_line": "(text)", "print_line": "(tree)"},
    "filters": {
        "Filter": {"": "(name, terms)", "feed": "(word)", "finish": "()"},
        "filter_all": "(name, terms, words)", "run_pipeline": "(commands, words, *, room=4, turns=())",
    },
    "shell": {
        "Shell": {
            "": "(files, rights, user)", "run": "(text, *, room=4, turns=())", "__call__": "(text)",
        },
    },
    "world": {
        "World": {
            "": "(programs, *, pages=4, priorities=(), frames=4, slots=32, rooms=(), gates=(), blocks=0, roots=())",
            "do": "(event)", "run": "(events)", "record": "()", "log": "()", "status": "(pid)", "core": "(pid)",
            "contents": "(pid)", "handles": "(pid)", "ready": "()", "pipe": "(k)", "gate": "(k)", "block": "(k)",
            "rights": "()", "ages": "()", "tables": "()", "certificate": "()", "waits": "()", "ring_of_now": "()",
            "view": "(pid)", "state": "()", "many": "property", "setup": "property", "built": "static (setup)",
            "restored": "static (state)",
        },
    },
    "histories": {
        "is_view": "(view)", "project": "(log, pid)", "is_told": "(log, *, rooms, gates, blocks)",
        "replay": "(setup, record)", "is_record": "(record, setup)",
    },
}
ERRORS = ["WardError", "SourceError", "BadArgument", "BadText", "LabelTwice", "LabelMissing", "TooLong", "Unknown",
          "Taken", "NotAllowed", "WrongState", "RingOfWaits", "Full", "Stopped"]


def told_of(member):
    """How the interface writes a member of a class: its parameters without self, or its sort."""
    if isinstance(member, property):
        return "property"
    if isinstance(member, staticmethod):
        return "static " + str(inspect.signature(member.__func__))
    if isinstance(member, int):
        return repr(member)
    signature = inspect.signature(member)
    return str(signature.replace(parameters=list(signature.parameters.values())[1:]))


class InterfaceTest(unittest.TestCase):
    def test_functions_and_classes(self):
        for module_name, names in INTERFACE.items():
            module = importlib.import_module("wardwork." + module_name)
            for name, told in names.items():
                thing = vars(module)[name]
                self.assertEqual(module.__name__, thing.__module__, name)
                if inspect.isclass(thing):
                    self.same_class(thing, told)
                else:
                    self.assertEqual(told, str(inspect.signature(thing)), name)

    def same_class(self, made, members):
        for name, told in members.items():
            with self.subTest(made=made.__name__, member=name):
                if name == "":
                    self.assertEqual(told, str(inspect.signature(made)))
                else:
                    # The member stands in the class itself, not in a base class.
                    self.assertEqual(told, told_of(vars(made)[name]))

    def test_errors(self):
        module = importlib.import_module("wardwork.errors")
        for name in ERRORS:
            self.assertEqual("wardwork.errors", vars(module)[name].__module__)


if __name__ == "__main__":
    unittest.main()
