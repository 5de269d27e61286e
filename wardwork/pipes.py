"""Pipes: queues of words, and letters that are sent and received over them."""

from wardwork.checks import ask_range, ask_word, ask_words
from wardwork.errors import BadArgument, Full, WrongState


class Pipe:
    """A queue of words with a room."""

    def __init__(self, room=4):
        ask_range("room", room, 1, 16)
        self._room = room
        self._words = []
        self._taken = 0

    @property
    def room(self):
        return self._room

    @property
    def size(self):
        return len(self._words)

    @property
    def sent(self):
        return self._taken + len(self._words)

    @property
    def received(self):
        return self._taken

    def send(self, word):
        ask_word("word", word)
        if len(self._words) == self._room:
            return False
        self._words.append(word)
        return True

    def receive(self):
        if not self._words:
            return None
        self._taken += 1
        return self._words.pop(0)

    def state(self):
        return (self._room, list(self._words), self._taken)

    def __iter__(self):
        return iter(self._words)

    @staticmethod
    def restored(state):
        room, words, taken = state
        pipe = Pipe(room)
        pipe._words = list(words)
        pipe._taken = taken
        return pipe


def pack_letter(letter):
    ask_words("letter", letter, 0, 7)
    return [len(letter), *letter]


def unpack_letters(words):
    ask_words("words", words, 0, 400)
    letters = []
    at = 0
    while at < len(words):
        length = words[at]
        if length > 7:
            raise BadArgument("words")
        end = at + 1 + length
        if end > len(words):
            break
        letters.append(words[at + 1:end])
        at = end
    return (letters, words[at:])


class Sender:
    """Sends letters over a pipe, by way of an outbox of words."""

    def __init__(self, pipe):
        self._pipe = pipe
        self._outbox = []

    @property
    def pending(self):
        return len(self._outbox)

    def post(self, letter):
        words = pack_letter(letter)
        if len(self._outbox) + len(words) > 64:
            raise Full("sender")
        self._outbox.extend(words)

    def push(self, count=1):
        ask_range("count", count, 1, 64)
        moved = 0
        while moved < count and self._outbox and self._pipe.size < self._pipe.room:
            self._pipe.send(self._outbox.pop(0))
            moved += 1
        return moved


class Receiver:
    """Receives letters over a pipe and keeps the words of one that is not complete."""

    def __init__(self, pipe):
        self._pipe = pipe
        self._kept = []

    @property
    def partial(self):
        return list(self._kept)

    def pull(self, count=1):
        ask_range("count", count, 1, 64)
        words = list(self._pipe)[:count]
        # The letters are read before the words are taken, so that a wrong length changes nothing.
        try:
            letters, rest = unpack_letters(self._kept + words)
        except BadArgument:
            raise WrongState("receiver") from None
        for _ in words:
            self._pipe.receive()
        self._kept = rest
        return letters
