"""Wait lists: who waits for whom, who can go on, and who waits in a ring or a cycle."""

from wardwork.checks import are_different


def find_ring(waits):
    going = find_order(waits)
    return [pid for pid in sorted(list(_others_of(waits))) if pid not in going]


def is_ring(ring, waits):
    if not are_different(ring) or len(ring) == 0:
        return False
    others = _others_of(waits)
    for pid in ring:
        if not others.get(pid) or not all([other in ring for other in others[pid]]):
            return False
    return True


def find_order(waits):
    others = _others_of(waits)
    order = []
    while True:
        after = _least_next(others, order)
        if after is None:
            return order
        order.append(after)


def is_order(order, waits):
    if not are_different(order):
        return False
    others = _others_of(waits)
    for at, pid in enumerate(order):
        if pid not in others or not _may_stand(others[pid], order[:at]):
            return False
    return True


def find_cycle(waits):
    ring = find_ring(waits)
    if not ring:
        return []
    others = _others_of(waits)
    way = []
    pid = ring[0]
    while pid not in way:
        way.append(pid)
        pid = min(others[pid])
    return way[way.index(pid):]


def is_cycle(cycle, waits):
    if not are_different(cycle) or len(cycle) == 0:
        return False
    others = _others_of(waits)
    for at, pid in enumerate(cycle):
        after = cycle[(at + 1) % len(cycle)]
        if pid not in others or after not in others[pid]:
            return False
    return True


def _others_of(waits):
    """For each pid that occurs, the others that it waits for."""
    others = {}
    for pid, pids in waits:
        others[pid] = pids
    for pid, pids in waits:
        for other in pids:
            others.setdefault(other, [])
    return others


def _may_stand(others, ahead):
    """Tells whether a pid that waits for these others may stand behind those ahead."""
    return len(others) == 0 or any([other in ahead for other in others])


def _least_next(others, order):
    """The least pid that may stand next in the order, or None."""
    for pid in sorted(list(others)):
        if pid not in order and _may_stand(others[pid], order):
            return pid
    return None
