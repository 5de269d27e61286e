"""Certificates of who holds which place of a keeper."""

from wardwork.checks import is_in_range, is_integer, is_pair


def is_ownership(certificate, tables, *, frames, slots):
    if not isinstance(certificate, list):
        return False
    places = {}
    told = {}
    for row in certificate:
        if not _is_row(row, frames, slots) or row[0] in places:
            return False
        place, holders = row
        places[place] = True
        for holder in holders:
            # All holders of one row have the page of its first one.
            if holder in told or holder[1] != holders[0][1]:
                return False
            told[holder] = place
    return told == _places_of(tables)


def shared_places(certificate):
    return [place for place, holders in certificate if len(holders) > 1]


def _is_row(x, frames, slots):
    if not is_pair(x):
        return False
    place, holders = x
    if not _is_place(place, frames, slots) or not isinstance(holders, list) or len(holders) == 0:
        return False
    return all(_is_holder(holder) for holder in holders)


def _is_place(x, frames, slots):
    if not is_pair(x):
        return False
    name, number = x
    return (name == "frame" and is_in_range(number, 0, frames - 1)) or (
        name == "slot" and is_in_range(number, 0, slots - 1))


def _is_holder(x):
    return is_pair(x) and is_integer(x[0]) and is_integer(x[1])


def _places_of(tables):
    """For each pair of an owner and a page that is not blank, the place of that page."""
    places = {}
    for owner, table in tables:
        for page, place in enumerate(table):
            if place is not None:
                places[(owner, page)] = place
    return places
