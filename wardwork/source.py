"""Source rows of the machine language, read from a text and printed as one."""

from wardwork.checks import DIGITS, LETTERS, is_pair, is_word
from wardwork.errors import BadArgument, BadText
from wardwork.instructions import REGISTERS, is_instruction, is_number, operands_of

# The operations in which a label name may stand in the place of the number.
LABELLED = ("set", "jump", "zero", "link")


def read_source(text):
    lines = text.split("\n")
    return [_read_line(line, number) for number, line in enumerate(lines, start=1)]


def print_source(rows):
    ask_rows(rows)
    return "\n".join([_print_row(label, body) for label, body in rows])


def ask_rows(rows):
    """Asks for a list of at most 200 source rows."""
    if not isinstance(rows, list) or len(rows) > 200:
        raise BadArgument("rows")
    for row in rows:
        if not _is_row(row):
            raise BadArgument("rows")


def label_used(body):
    """The label name that stands in the place of a body's number, or None."""
    if body is None or body[0] not in LABELLED or not isinstance(body[-1], str):
        return None
    return body[-1]


def read_number(token):
    """The number of a number token, or None for any other token."""
    if not 1 <= len(token) <= 5 or not all(sign in DIGITS for sign in token):
        return None
    if len(token) > 1 and token[0] == "0":
        return None
    return int(token)


def _is_row(x):
    if not is_pair(x):
        return False
    label, body = x
    return (label is None or _is_label(label)) and (body is None or _is_body(body))


def _is_label(x):
    if not isinstance(x, str) or not 1 <= len(x) <= 8 or x[0] not in LETTERS:
        return False
    return all(sign in LETTERS or sign in DIGITS for sign in x)


def _is_body(x):
    if not isinstance(x, tuple) or len(x) == 0:
        return False
    if x[0] == "word":
        return len(x) == 2 and is_word(x[1])
    if x[0] in LABELLED and _is_label(x[-1]):
        # With a number in the place of the label name it must be an instruction.
        return is_instruction(x[:-1] + (0,))
    return is_instruction(x)


def _print_row(label, body):
    tokens = [] if label is None else [label + ":"]
    if body is not None:
        tokens.extend([str(part) for part in body])
    return " ".join(tokens)


def _read_line(line, number):
    tokens = _tokens_of(line.partition("#")[0])
    label = None
    if tokens and tokens[0][1].endswith(":"):
        column, token = tokens[0]
        label = token[:-1]
        if not _is_label(label):
            raise BadText(number, column)
        tokens = tokens[1:]
    return (label, _read_body(tokens, number))


def _tokens_of(line):
    """The pairs of a column and the token that begins there."""
    tokens = []
    column = 1
    for part in line.split(" "):
        if part != "":
            tokens.append((column, part))
        column += len(part) + 1
    return tokens


def _read_body(tokens, number):
    if not tokens:
        return None
    column, name = tokens[0]
    sorts = "W" if name == "word" else operands_of(name)
    if sorts is None:
        raise BadText(number, column)
    body = [name]
    for sort, (at, token) in zip(sorts, tokens[1:]):
        operand = _read_operand(name, sort, token)
        if operand is None:
            raise BadText(number, at)
        body.append(operand)
    _ask_count(tokens, 1 + len(sorts), number)
    return tuple(body)


def _ask_count(tokens, count, number):
    if len(tokens) < count:
        column, token = tokens[-1]
        raise BadText(number, column + len(token))
    if len(tokens) > count:
        raise BadText(number, tokens[count][0])


def _read_operand(name, sort, token):
    """The operand for which the token stands, or None if it is a wrong token."""
    if sort == "N" and name in LABELLED and _is_label(token):
        return token
    if sort == "R" or sort == "S":
        return token if token in REGISTERS else None
    value = read_number(token)
    right = is_word(value) if sort == "W" else is_number(value)
    return value if right else None
