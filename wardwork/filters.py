"""Filters take words in and give words out; pipelines connect them by pipes."""

from wardwork.checks import WORDS, ask_range, ask_word, ask_words, is_in_range, is_word
from wardwork.errors import BadArgument, Unknown, WrongState
from wardwork.phrases import is_command
from wardwork.pipes import Pipe
from wardwork.source import read_number

# For each filter the least and the greatest number of its terms, which are number texts.
_TERMS = {
    "pass": (0, 0), "add": (1, 1), "below": (1, 1), "first": (1, 1), "last": (1, 1), "once": (0, 0), "sum": (0, 0),
    "count": (0, 0), "sort": (0, 0), "flip": (0, 0), "emit": (1, 8),
}


class Filter:
    """One filter; some give words at once, and the others when no word follows."""

    def __init__(self, name, terms):
        if name not in _TERMS:
            raise Unknown(name)
        least, most = _TERMS[name]
        if not isinstance(terms, list) or not least <= len(terms) <= most:
            raise BadArgument("terms")
        if not all(_is_number_text(term) for term in terms):
            raise BadArgument("terms")
        self._name = name
        self._numbers = [read_number(term) for term in terms]
        # The words that came in, as far as the filter needs them later.
        self._kept = []
        self._count = 0
        self._sum = 0
        self._ended = False

    def feed(self, word):
        ask_word("word", word)
        self._ask_open()
        given = self._given_at_once(word)
        self._count += 1
        self._sum = (self._sum + word) % WORDS
        if self._name in ("last", "sort", "flip"):
            self._kept.append(word)
        elif self._name == "once":
            self._kept = [word]
        return given

    def finish(self):
        self._ask_open()
        self._ended = True
        if self._name == "last":
            return self._kept[max(0, self._count - self._numbers[0]):]
        if self._name == "sum":
            return [self._sum]
        if self._name == "count":
            return [self._count % WORDS]
        if self._name == "sort":
            return sorted(self._kept)
        if self._name == "flip":
            return self._kept[::-1]
        return list(self._numbers) if self._name == "emit" else []

    def _ask_open(self):
        if self._ended:
            raise WrongState("filter")

    def _given_at_once(self, word):
        if self._name == "add":
            return [(word + self._numbers[0]) % WORDS]
        if self._name == "pass":
            passes = True
        elif self._name == "below":
            passes = word < self._numbers[0]
        elif self._name == "first":
            passes = self._count < self._numbers[0]
        else:
            passes = self._name == "once" and self._kept != [word]
        return [word] if passes else []


class Sections:
    """Filters that are connected by pipes, the words for the first one, and what came out of the last one."""

    def __init__(self, filters, words, room):
        self._filters = filters
        self._words = list(words)
        self._pipes = [Pipe(room) for _ in filters[1:]]
        self._outboxes = [[] for _ in filters]
        self._finished = [False] * len(filters)
        self._result = []

    def turn(self, number):
        if self._outboxes[number]:
            self._move_word(number)
            return
        word = self._next_word(number)
        if word is not None:
            self._outboxes[number] = self._filters[number].feed(word)
        elif not self._finished[number] and (number == 0 or self.is_done(number - 1)):
            self._finished[number] = True
            self._outboxes[number] = self._filters[number].finish()

    def is_done(self, number):
        return self._finished[number] and not self._outboxes[number]

    def result(self):
        return list(self._result)

    def _move_word(self, number):
        """Moves a word from the outbox into the pipe behind it, if that is not full, or to the result."""
        outbox = self._outboxes[number]
        if number == len(self._filters) - 1:
            self._result.append(outbox.pop(0))
        elif self._pipes[number].send(outbox[0]):
            outbox.pop(0)

    def _next_word(self, number):
        """The oldest word ahead of the section, which is taken out, or None."""
        if number > 0:
            return self._pipes[number - 1].receive()
        return self._words.pop(0) if self._words else None


def filter_all(name, terms, words):
    try:
        made = Filter(name, terms)
    except Unknown:
        # Wrong words go ahead of a name that is not there, but not of wrong terms.
        ask_words("words", words, 0, 200)
        raise
    ask_words("words", words, 0, 200)
    given = []
    for word in words:
        given.extend(made.feed(word))
    return given + made.finish()


def run_pipeline(commands, words, *, room=4, turns=()):
    if not isinstance(commands, list) or not 1 <= len(commands) <= 8:
        raise BadArgument("commands")
    if not all(is_command(command) for command in commands):
        raise BadArgument("commands")
    ask_words("words", words, 0, 64)
    ask_range("room", room, 1, 16)
    ask_turns(turns, len(commands))
    sections = Sections([Filter(name, terms) for name, terms in commands], words, room)
    for number in turns:
        sections.turn(number)
    while not sections.is_done(len(commands) - 1):
        for number in range(len(commands)):
            sections.turn(number)
    return sections.result()


def ask_turns(turns, many):
    """Asks for a list or a tuple of at most 300 numbers of so many sections."""
    if not isinstance(turns, (list, tuple)) or len(turns) > 300:
        raise BadArgument("turns")
    if not all(is_in_range(number, 0, many - 1) for number in turns):
        raise BadArgument("turns")


def _is_number_text(x):
    return isinstance(x, str) and is_word(read_number(x))
