"""The machine: single steps over any memory, and runs of one process alone."""

from wardwork.checks import WORDS, are_words, ask_range, ask_words
from wardwork.errors import BadArgument
from wardwork.instructions import REGISTERS, instruction_of
from wardwork.spaces import Plain


def step(core, memory):
    _ask_core(core)
    pc = core[0]
    size = 8 * memory.pages
    if pc >= size:
        return (core, ("fault", "fetch"))
    instruction = instruction_of(memory.read(pc))
    event = _event_of(instruction, core, size)
    if event is None:
        return (_take_effect(core, instruction, memory), None)
    if event[0] == "trap":
        return ((pc + 1, *core[1:]), event)
    return (core, event)


def run_alone(core, contents, answers, *, limit=200):
    _ask_core(core)
    _ask_contents(contents)
    ask_range("limit", limit, 0, 2001)
    memory = Plain(len(contents) // 8, contents)
    ending = "limit"
    steps = 0
    asked = []
    while steps < limit:
        core, event = step(core, memory)
        if event is not None and event[0] != "trap":
            # The event is a halt, or a fault with its name as the last part.
            ending = event[-1]
            break
        steps += 1
        if event is not None:
            asked.append((event[1], *core[1:]))
            if len(asked) > len(answers):
                ending = "asks"
                break
            core = answered(core, answers[len(asked) - 1])
    return (ending, steps, core, memory.contents(), asked)


def is_core(x):
    return isinstance(x, tuple) and len(x) == 5 and are_words(x)


def answered(core, answer):
    """The core after the answer took effect."""
    return (core[0], *answer, *core[3:])


def _ask_core(core):
    if not is_core(core):
        raise BadArgument("core")


def _ask_contents(contents):
    ask_words("contents", contents, 8, 128)
    if len(contents) % 8 != 0:
        raise BadArgument("contents")


def _value_of(core, letter):
    return core[1 + REGISTERS.index(letter)]


def _event_of(instruction, core, size):
    """The event of a step, or None if the instruction takes effect."""
    if instruction is None:
        return ("fault", "code")
    name = instruction[0]
    if name == "halt":
        return ("halt",)
    if name in ("load", "store") and _value_of(core, instruction[2]) >= size:
        return ("fault", "address")
    if name == "div" and _value_of(core, instruction[2]) == 0:
        return ("fault", "divide")
    if name == "trap":
        return ("trap", instruction[1])
    return None


def _take_effect(core, instruction, memory):
    """The new core. All operands are read off the old one, so R and S may be one register."""
    if instruction[0] == "store":
        memory.write(_value_of(core, instruction[2]), _value_of(core, instruction[1]))
    result = _result_of(core, instruction, memory)
    changed = list(core)
    changed[0] = _next_pc(core, instruction)
    if result is not None:
        changed[1 + REGISTERS.index(instruction[1])] = result
    return tuple(changed)


def _next_pc(core, instruction):
    name = instruction[0]
    if name in ("jump", "link"):
        return instruction[-1]
    if name == "zero" and _value_of(core, instruction[1]) == 0:
        return instruction[2]
    if name == "back":
        return _value_of(core, instruction[1])
    return core[0] + 1


def _result_of(core, instruction, memory):
    """What R becomes, or None if no register changes."""
    name = instruction[0]
    if name in ("store", "jump", "zero", "back"):
        return None
    if name == "set":
        return instruction[2]
    if name == "link":
        return core[0] + 1
    second = _value_of(core, instruction[2])
    if name == "load":
        return memory.read(second)
    return _combined(name, _value_of(core, instruction[1]), second)


def _combined(name, first, second):
    if name == "copy":
        return second
    if name == "add":
        return (first + second) % WORDS
    if name == "sub":
        return (first - second) % WORDS
    if name == "mul":
        return first * second % WORDS
    if name == "div":
        return first // second
    if name == "less":
        return 1 if first < second else 0
    return 1 if first == second else 0
