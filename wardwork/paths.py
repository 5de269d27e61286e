"""Paths: texts that name files and folders."""

from wardwork.checks import LETTERS
from wardwork.errors import BadArgument


def is_name(x):
    return isinstance(x, str) and 1 <= len(x) <= 6 and all(sign in LETTERS for sign in x)


def is_path(x):
    if not isinstance(x, str) or not x.startswith("/"):
        return False
    names = names_of(x)
    return len(names) <= 16 and all(is_name(name) for name in names)


def ask_path(name, path):
    if not is_path(path):
        raise BadArgument(name)


def names_of(path):
    """The names in a path from the left; the root folder has none."""
    return [] if path == "/" else path[1:].split("/")


def parent_of(path):
    """The path without its last name; the root folder stands for its own parent."""
    folder = path.rpartition("/")[0]
    return "/" if folder == "" else folder


def last_name_of(path):
    return path.rpartition("/")[2]
