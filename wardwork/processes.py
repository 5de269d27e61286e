"""The processes of a world: their cores, rights and views."""

from wardwork.machine import answered

LIVING = ("ready", "waiting")


class Process:
    """One process. Its memory is with the keeper as long as it lives."""

    def __init__(self, pid, base, core, contents):
        self.pid = pid
        self.base = base
        self.now = core
        # "ready", "waiting", or how it ended.
        self.standing = "ready"
        # For each handle the number of its right and the thing, which is known when the right is gone, too.
        self.grants = []
        # The numbers of the rights that it handed on.
        self.gifts = []
        # The request that is not answered. It is kept if the process ends while it waits.
        self.request = None
        # What its memory held when it ended.
        self.left = None
        self._begin_view(contents)

    def is_living(self):
        return self.standing in LIVING

    def ask(self, number):
        """Takes down the request with this number; returns it."""
        self.request = (number, *self.now[1:])
        self.asked.append(self.request)
        return self.request

    def take(self, answer):
        """Lets the answer to the request take effect."""
        self.standing = "ready"
        self.request = None
        self.answers.append(answer)
        self.now = answered(self.now, answer)

    def view(self, contents):
        """What the process sees of the run; the contents are those of its memory."""
        return (self.start, list(self.before), list(self.answers), list(self.asked), self.steps, self._ending(),
                self.now, contents)

    def state(self):
        left = None if self.left is None else list(self.left)
        return (self.base, self.now, self.standing, list(self.grants), list(self.gifts), self.request, left)

    @staticmethod
    def restored(pid, state, contents):
        base, now, standing, grants, gifts, request, left = state
        process = Process(pid, base, now, contents)
        process.standing = standing
        process.grants = list(grants)
        process.gifts = list(gifts)
        process.request = request
        process.left = None if left is None else list(left)
        process._begin_view(contents)
        return process

    def _begin_view(self, contents):
        """Begins the view at this moment, or ahead of the trap of a request that is not answered."""
        self.start = self.now
        self.before = list(contents)
        self.answers = []
        self.asked = []
        self.steps = 0
        if self.request is not None:
            self.start = (self.now[0] - 1, *self.now[1:])
            self.asked.append(self.request)
            self.steps = 1

    def _ending(self):
        if self.standing in LIVING or self.standing == "ended":
            return "limit" if self.request is None else "asks"
        return self.standing
