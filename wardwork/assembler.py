"""From source rows to words and back, and which addresses a program can reach."""

from wardwork.checks import ask_range, ask_words
from wardwork.errors import LabelMissing, LabelTwice, TooLong
from wardwork.instructions import code_of, instruction_of
from wardwork.source import ask_rows, label_used

# The most words of a program.
_LENGTH = 128


def assemble(rows):
    ask_rows(rows)
    _ask_labels_once(rows)
    _ask_labels_there(rows)
    _ask_length(rows)
    labels = _labels_of(rows)
    addresses = dict(labels)
    words = [_word_of(body, addresses) for label, body in rows if body is not None]
    return (words, labels)


def disassemble(words, *, labels=()):
    ask_words("words", words, 0, _LENGTH)
    rows = []
    for address in range(len(words) + 1):
        names = [label for label, place in labels if place == address]
        body = _body_of(words[address]) if address < len(words) else None
        rows.extend([(label, None) for label in names[:-1]])
        last = names[-1] if names else None
        if last is not None or body is not None:
            rows.append((last, body))
    return rows


def reach(words, start=0):
    ask_words("words", words, 0, _LENGTH)
    ask_range("start", start, 0, 1023)
    reached = {}
    waiting = [start]
    while waiting:
        address = waiting.pop()
        if address < len(words) and address not in reached:
            reached[address] = True
            waiting.extend(_next_addresses(instruction_of(words[address]), address))
    return sorted(list(reached))


def _ask_labels_once(rows):
    seen = {}
    for index, (label, body) in enumerate(rows):
        if label is None:
            continue
        if label in seen:
            raise LabelTwice(index + 1, label)
        seen[label] = True


def _ask_labels_there(rows):
    there = [label for label, body in rows if label is not None]
    for index, (label, body) in enumerate(rows):
        used = label_used(body)
        if used is not None and used not in there:
            raise LabelMissing(index + 1, used)


def _ask_length(rows):
    bodies = [index for index, (label, body) in enumerate(rows) if body is not None]
    if len(bodies) > _LENGTH:
        raise TooLong(bodies[_LENGTH] + 1)


def _labels_of(rows):
    """The pairs of each label and its address, in the order of the rows."""
    labels = []
    address = 0
    for label, body in rows:
        if label is not None:
            labels.append((label, address))
        if body is not None:
            address += 1
    return labels


def _word_of(body, addresses):
    if body[0] == "word":
        return body[1]
    used = label_used(body)
    if used is None:
        return code_of(body)
    return code_of(body[:-1] + (addresses[used],))


def _body_of(word):
    instruction = instruction_of(word)
    return ("word", word) if instruction is None else instruction


def _next_addresses(instruction, address):
    """The addresses that may come after this one, if it holds this instruction or no code."""
    if instruction is None or instruction[0] in ("halt", "back"):
        return []
    if instruction[0] in ("jump", "link"):
        return [instruction[-1]]
    if instruction[0] == "zero":
        return [instruction[-1], address + 1]
    return [address + 1]
