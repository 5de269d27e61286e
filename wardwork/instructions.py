"""Instructions of the machine and their codes."""

from wardwork.checks import ask_word, is_in_range
from wardwork.errors import BadArgument

REGISTERS = ("a", "b", "c", "d")

# The operations at their numbers, each with its operands: R and S are registers, N is a number.
OPERATIONS = (
    ("halt", ""),
    ("set", "RN"),
    ("copy", "RS"),
    ("load", "RS"),
    ("store", "RS"),
    ("add", "RS"),
    ("sub", "RS"),
    ("mul", "RS"),
    ("div", "RS"),
    ("less", "RS"),
    ("same", "RS"),
    ("jump", "N"),
    ("zero", "RN"),
    ("trap", "N"),
    ("link", "RN"),
    ("back", "R"),
)


def code_of(instruction):
    if not is_instruction(instruction):
        raise BadArgument("instruction")
    number = _number_of(instruction[0])
    code = 4096 * number
    for sort, operand in zip(OPERATIONS[number][1], instruction[1:]):
        if sort == "R":
            code += 1024 * REGISTERS.index(operand)
        elif sort == "S":
            code += REGISTERS.index(operand)
        else:
            code += operand
    return code


def instruction_of(word):
    ask_word("word", word)
    name, sorts = OPERATIONS[word // 4096]
    first = word // 1024 % 4
    last = word % 1024
    if ("R" not in sorts and first > 0) or last > _greatest_last(sorts):
        return None
    operands = []
    for sort in sorts:
        if sort == "R":
            operands.append(REGISTERS[first])
        elif sort == "S":
            operands.append(REGISTERS[last])
        else:
            operands.append(last)
    return (name, *operands)


def is_instruction(x):
    """Tells for every plain value whether it is an instruction."""
    if not isinstance(x, tuple) or len(x) == 0:
        return False
    sorts = operands_of(x[0])
    if sorts is None or len(x) != 1 + len(sorts):
        return False
    return all(_is_operand(sort, operand) for sort, operand in zip(sorts, x[1:]))


def operands_of(name):
    """The sorts of the operands of an operation, or None for every value that names none."""
    number = _number_of(name)
    return None if number is None else OPERATIONS[number][1]


def is_number(x):
    return is_in_range(x, 0, 1023)


def _number_of(name):
    for number, operation in enumerate(OPERATIONS):
        if operation[0] == name:
            return number
    return None


def _greatest_last(sorts):
    if "N" in sorts:
        return 1023
    return 3 if "S" in sorts else 0


def _is_operand(sort, operand):
    if sort == "N":
        return is_number(operand)
    return operand in REGISTERS
