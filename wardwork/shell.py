"""The shell: command lines over files and rights, for one user."""

from wardwork.checks import ask_range
from wardwork.errors import WardError
from wardwork.files import Files
from wardwork.filters import Filter, ask_turns, run_pipeline
from wardwork.nodes import blocks_for
from wardwork.paths import is_path, parent_of
from wardwork.phrases import parse_line


class Shell:
    """Runs command lines for one user, who needs rights on the paths that are read and written."""

    def __init__(self, files, rights, user):
        ask_range("user", user, 0, 7)
        self._files = files
        self._rights = rights
        self._user = user

    def run(self, text, *, room=4, turns=()):
        ask_range("room", room, 1, 16)
        ask_turns(turns, 8)
        told = []
        for joint, source, commands, target in parse_line(text):
            if joint == "&&" and told[-1][0] != "done":
                told.append(("skipped", []))
            else:
                told.append(self._run_pipeline(source, commands, target, room, turns))
        return told

    def __call__(self, text):
        return self.run(text)

    def _run_pipeline(self, source, commands, target, room, turns):
        """Does one pipeline, or nothing if it fails; returns its status and words."""
        if not _are_filters(commands) or not self._may_use(source, "r") or not self._may_use(target, "w"):
            return ("failed", [])
        if source is not None and self._files.kind(source) != "file":
            return ("failed", [])
        words = [] if source is None else self._files.read(source)
        mine = [number for number in turns if number < len(commands)]
        result = run_pipeline(commands, words, room=room, turns=mine)
        if target is None:
            return ("done", result)
        if not self._has_room(target, len(result)):
            return ("failed", [])
        if self._files.kind(target) is None:
            self._files.make_file(target)
        self._files.write(target, result)
        return ("done", [])

    def _may_use(self, path, mark):
        """Tells whether a source or target is away, or a path on which the user has a right with the mark."""
        return path is None or (is_path(path) and self._rights.may(self._user, path, mark))

    def _has_room(self, target, length):
        """Tells whether so many words can be written into the target, be it there or not."""
        kind = self._files.kind(target)
        left = self._files.blocks_left()
        if kind is not None:
            return kind == "file" and blocks_for(length) - blocks_for(len(self._files.read(target))) <= left
        folder = parent_of(target)
        if self._files.kind(folder) != "folder" or self._files.nodes_left() == 0:
            return False
        entries = len(self._files.listing(folder))
        # Two entries stand in one data block, so an even number of them needs a new one for the next.
        return entries < Files.ENTRIES and (entries + 1) % 2 + blocks_for(length) <= left


def _are_filters(commands):
    """Tells whether the commands are filters that one pipeline can run."""
    if len(commands) > 8:
        return False
    try:
        for name, terms in commands:
            Filter(name, terms)
    except WardError:
        return False
    return True
