"""A trunk: several lanes of words over one pipe."""

from wardwork.checks import ask_range, ask_words
from wardwork.errors import Full
from wardwork.pipes import Pipe


class Trunk:
    """Lanes with an outbox and an inbox each, whose words go through the pipe in pieces."""

    def __init__(self, lanes=4, *, room=8):
        ask_range("lanes", lanes, 1, 8)
        ask_range("room", room, 4, 16)
        self._pipe = Pipe(room)
        self._outboxes = [[] for _ in range(lanes)]
        self._inboxes = [[] for _ in range(lanes)]
        # The lane that was pushed last. At first it is the last one, so that lane 0 comes next.
        self._last = lanes - 1

    def post(self, lane, words):
        self._ask_lane(lane)
        ask_words("words", words, 0, 16)
        if len(self._outboxes[lane]) + len(words) > 64:
            raise Full(lane)
        self._outboxes[lane].extend(words)

    def push(self):
        lane = self._next_lane()
        if lane is None:
            return None
        piece = self._outboxes[lane][:3]
        if self._pipe.size + 1 + len(piece) > self._pipe.room:
            return None
        self._pipe.send(4 * lane + len(piece))
        for word in piece:
            self._pipe.send(word)
        self._outboxes[lane] = self._outboxes[lane][3:]
        self._last = lane
        return lane

    def pull(self):
        head = self._pipe.receive()
        if head is None:
            return None
        lane = head // 4
        for _ in range(head % 4):
            self._inboxes[lane].append(self._pipe.receive())
        return lane

    def take(self, lane):
        self._ask_lane(lane)
        words = self._inboxes[lane]
        self._inboxes[lane] = []
        return words

    def contents(self):
        return list(self._pipe)

    def waiting(self, lane):
        self._ask_lane(lane)
        return len(self._outboxes[lane])

    def state(self):
        outboxes = [list(words) for words in self._outboxes]
        inboxes = [list(words) for words in self._inboxes]
        return (self._pipe.state(), outboxes, inboxes, self._last)

    @staticmethod
    def restored(state):
        pipe, outboxes, inboxes, last = state
        trunk = Trunk(len(outboxes))
        trunk._pipe = Pipe.restored(pipe)
        trunk._outboxes = [list(words) for words in outboxes]
        trunk._inboxes = [list(words) for words in inboxes]
        trunk._last = last
        return trunk

    def _ask_lane(self, lane):
        ask_range("lane", lane, 0, len(self._outboxes) - 1)

    def _next_lane(self):
        """The lane that has the turn among those whose outboxes are not empty, or None."""
        lanes = len(self._outboxes)
        for steps in range(1, lanes + 1):
            lane = (self._last + steps) % lanes
            if self._outboxes[lane]:
                return lane
        return None
