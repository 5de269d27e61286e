"""A model of the keeper for the tests: sheets are objects with a place and the time of their last touch."""

import copy


class Sheet:
    def __init__(self, words):
        self.words = list(words)
        self.place = None
        self.touched = 0


class Model:
    """Does what [31] to [33] tell, word by word, for calls that raise no error."""

    def __init__(self, frames, slots):
        self.places = {"frame": frames, "slot": slots}
        self.owners = {}
        self.time = 0
        self.moves = (0, 0)

    def sheets(self):
        return {id(sheet): sheet for pages in self.owners.values() for sheet in pages if sheet}.values()

    def free(self, kind, going=None):
        used = [sheet.place for sheet in self.sheets() if sheet is not going]
        free = [(kind, k) for k in range(self.places[kind]) if (kind, k) not in used]
        return free[0] if free else None

    def frame_for(self, sheet):
        """Puts a sheet that has no frame into one."""
        place = self.free("frame")
        if place is None:
            victim = min((one for one in self.sheets() if one.place and one.place[0] == "frame"),
                         key=lambda one: one.touched)
            place = victim.place
            victim.place = self.free("slot", sheet)
            self.moves = (self.moves[0], self.moves[1] + 1)
        sheet.place = place

    def admit(self, owner, pages, words):
        self.owners[owner] = [None] * pages
        for address, word in enumerate(words):
            self.write(owner, address, word)

    def fork(self, parent, child):
        self.owners[child] = list(self.owners[parent])

    def dismiss(self, owner):
        del self.owners[owner]

    def bring_in(self, sheet):
        if sheet.place[0] == "slot":
            self.frame_for(sheet)
            self.moves = (self.moves[0] + 1, self.moves[1])

    def touch(self, sheet):
        self.time += 1
        sheet.touched = self.time

    def read(self, owner, address):
        sheet = self.owners[owner][address // 8]
        if sheet is None:
            return 0
        self.bring_in(sheet)
        self.touch(sheet)
        return sheet.words[address % 8]

    def write(self, owner, address, word):
        page = address // 8
        sheet = self.owners[owner][page]
        sharers = sum(sheet in pages for pages in self.owners.values()) if sheet else 0
        if sheet is None or sharers > 1:
            self.owners[owner][page] = None
            new = Sheet(sheet.words if sheet else [0] * 8)
            self.frame_for(new)
            self.owners[owner][page] = new
        else:
            self.bring_in(sheet)
        self.touch(self.owners[owner][page])
        self.owners[owner][page].words[address % 8] = word

    def tables(self):
        return [(owner, [sheet and sheet.place for sheet in self.owners[owner]]) for owner in sorted(self.owners)]

    def contents(self, owner):
        return [word for sheet in self.owners[owner] for word in (sheet.words if sheet else [0] * 8)]

    def room_left(self):
        return sum(self.places.values()) - sum(len(pages) for pages in self.owners.values())


def random_call(chance, keeper, sizes):
    """A call that raises no error, as a tuple of the method's name and its arguments, or None.

    sizes: a dict with the number of pages of each owner that is there.
    """
    there = sorted(sizes)
    absent = [owner for owner in range(8) if owner not in sizes]
    what = chance.choice(["admit", "fork"] * 2 + ["dismiss"] + ["read"] * 7 + ["write"] * 10)
    if what == "admit" and absent and keeper.room_left > 0:
        pages = chance.randrange(1, min(6, keeper.room_left, 16) + 1)
        words = [chance.randrange(3) for _ in range(chance.choice([0, 1, 8, 9, 8 * pages]))][:8 * pages]
        return ("admit", chance.choice(absent), pages, words)
    if not there or what == "admit":
        return None
    owner = chance.choice(there)
    if what == "fork":
        return ("fork", owner, chance.choice(absent)) if absent and sizes[owner] <= keeper.room_left else None
    if what == "dismiss":
        return ("dismiss", owner)
    address = chance.randrange(8 * sizes[owner])
    return ("read", owner, address) if what == "read" else ("write", owner, address, chance.randrange(65536))


def note_call(row, sizes):
    """Keeps the dict of sizes as the call of the row leaves the owners."""
    if row[0] == "admit":
        sizes[row[1]] = row[2]
    elif row[0] == "fork":
        sizes[row[2]] = sizes[row[1]]
    elif row[0] == "dismiss":
        del sizes[row[1]]


def make(keeper, row):
    """Makes the call of a row."""
    return getattr(keeper, row[0])(*row[1:])


def seen(keeper):
    """All that a keeper tells, and its state."""
    owners = [owner for owner in range(8) if owner in keeper]
    told = (owners, keeper.moves, keeper.room_left, keeper.tables(), keeper.certificate(),
            [keeper.contents(owner) for owner in owners], [keeper.table(owner) for owner in owners], keeper.state())
    return copy.deepcopy(told)
