"""The keeper of memory: the pages of several owners in a few frames, and in slots meanwhile."""

from wardwork.checks import ask_first_words, ask_range, ask_word, is_integer
from wardwork.errors import Full, Taken, Unknown


class Keeper:
    """Owners of pages. A page is blank or has a sheet, which stands in one place, a frame or a slot."""

    def __init__(self, frames, slots):
        ask_range("frames", frames, 1, 32)
        ask_range("slots", slots, 0, 64)
        self._frames = frames
        self._slots = slots
        # For each owner the list of the places of its pages, with None for a blank page.
        self._tables = {}
        # For each place in use the words of the sheet that stands there.
        self._sheets = {}
        # The frames that were ever touched; the one whose last touch is the longest ago stands first.
        self._touched = []
        self._came_in = 0
        self._went_out = 0

    @property
    def moves(self):
        return (self._came_in, self._went_out)

    @property
    def room_left(self):
        return self._frames + self._slots - sum([len(table) for table in self._tables.values()])

    def admit(self, owner, pages=4, words=()):
        ask_range("owner", owner, 0, 7)
        ask_range("pages", pages, 1, 16)
        ask_first_words("words", words, 8 * pages)
        self._ask_absent(owner)
        self._ask_room(pages)
        self._tables[owner] = [None] * pages
        for address, word in enumerate(words):
            self.write(owner, address, word)

    def fork(self, parent, child):
        ask_range("parent", parent, 0, 7)
        ask_range("child", child, 0, 7)
        self._ask_present(parent)
        self._ask_absent(child)
        self._ask_room(len(self._tables[parent]))
        self._tables[child] = list(self._tables[parent])

    def dismiss(self, owner):
        self._ask_owner(owner)
        table = self._tables.pop(owner)
        for place in table:
            if place is not None and not self._holders_of(place):
                del self._sheets[place]

    def read(self, owner, address):
        self._ask_owner(owner)
        self._ask_address(owner, address)
        place = self._tables[owner][address // 8]
        if place is None:
            return 0
        frame = self._bring_in(place)
        self._touch(frame)
        return self._sheets[frame][address % 8]

    def write(self, owner, address, word):
        ask_range("owner", owner, 0, 7)
        if owner in self._tables:
            self._ask_address(owner, address)
        ask_word("word", word)
        self._ask_present(owner)
        frame = self._own_frame(owner, address // 8)
        self._touch(frame)
        self._sheets[frame][address % 8] = word

    def contents(self, owner):
        self._ask_owner(owner)
        words = []
        for place in self._tables[owner]:
            words.extend([0] * 8 if place is None else self._sheets[place])
        return words

    def table(self, owner):
        self._ask_owner(owner)
        return list(self._tables[owner])

    def tables(self):
        return [(owner, list(self._tables[owner])) for owner in sorted(list(self._tables))]

    def certificate(self):
        # As texts, "frame" is less than "slot".
        return [(place, self._holders_of(place)) for place in sorted(list(self._sheets))]

    def state(self):
        sheets = [(place, list(words)) for place, words in self._sheets.items()]
        return (self._frames, self._slots, self.tables(), sheets, list(self._touched), self.moves)

    def __contains__(self, x):
        return is_integer(x) and x in self._tables

    @staticmethod
    def restored(state):
        frames, slots, tables, sheets, touched, moves = state
        keeper = Keeper(frames, slots)
        for owner, table in tables:
            keeper._tables[owner] = list(table)
        for place, words in sheets:
            keeper._sheets[place] = list(words)
        keeper._touched = list(touched)
        keeper._came_in, keeper._went_out = moves
        return keeper

    def _ask_owner(self, owner):
        ask_range("owner", owner, 0, 7)
        self._ask_present(owner)

    def _ask_present(self, owner):
        if owner not in self._tables:
            raise Unknown(owner)

    def _ask_absent(self, owner):
        if owner in self._tables:
            raise Taken(owner)

    def _ask_room(self, pages):
        if pages > self.room_left:
            raise Full("keeper")

    def _ask_address(self, owner, address):
        ask_range("address", address, 0, 8 * len(self._tables[owner]) - 1)

    def _holders_of(self, place):
        """The ascending list of the pairs of an owner and its page that has the sheet of this place."""
        return [(owner, page) for owner in sorted(list(self._tables))
                for page, held in enumerate(self._tables[owner]) if held == place]

    def _own_frame(self, owner, page):
        """The frame of the page's sheet, after it was made one that nobody shares."""
        place = self._tables[owner][page]
        if place is None:
            return self._new_sheet(owner, page, [0] * 8)
        if len(self._holders_of(place)) > 1:
            return self._new_sheet(owner, page, list(self._sheets[place]))
        return self._bring_in(place)

    def _new_sheet(self, owner, page, words):
        frame = self._cleared_frame()
        self._put(frame, words, [(owner, page)])
        return frame

    def _bring_in(self, place):
        """The frame of the sheet that stands in this place, after it was brought in."""
        if place[0] == "frame":
            return place
        # The slot is freed first, because a victim may go out into it.
        holders = self._holders_of(place)
        words = self._sheets.pop(place)
        frame = self._cleared_frame()
        self._put(frame, words, holders)
        self._came_in += 1
        return frame

    def _cleared_frame(self):
        """The free frame with the lowest number, or that of the victim, which goes out."""
        frame = self._lowest_free("frame", self._frames)
        if frame is not None:
            return frame
        # No frame is free, so every frame was touched when its sheet came into it.
        victim = self._touched[0]
        slot = self._lowest_free("slot", self._slots)
        self._put(slot, self._sheets.pop(victim), self._holders_of(victim))
        self._went_out += 1
        return victim

    def _lowest_free(self, name, many):
        for number in range(many):
            if (name, number) not in self._sheets:
                return (name, number)
        return None

    def _put(self, place, words, holders):
        """Stands a sheet with these words in a place and tells it to its holders."""
        self._sheets[place] = words
        for owner, page in holders:
            self._tables[owner][page] = place

    def _touch(self, frame):
        if frame in self._touched:
            self._touched.remove(frame)
        self._touched.append(frame)


class Window:
    """The memory of the owner with this number in a keeper, whoever that is at the time of a call."""

    def __init__(self, keeper, owner):
        ask_range("owner", owner, 0, 7)
        if owner not in keeper:
            raise Unknown(owner)
        self._keeper = keeper
        self._owner = owner

    @property
    def pages(self):
        return len(self._keeper.table(self._owner))

    def read(self, address):
        return self._keeper.read(self._owner, address)

    def write(self, address, word):
        self._keeper.write(self._owner, address, word)

    def contents(self):
        return self._keeper.contents(self._owner)
