"""Command lines: texts of pipelines, read into trees and printed from them."""

from wardwork.checks import DIGITS, LETTERS, is_pair
from wardwork.errors import BadArgument, BadText

# The place in a command line behind each term or operator, for each place where it may stand.
_PLACES = {
    ("beginning", "term"): "first",
    ("first", "term"): "first",
    ("first", "<"): "source",
    ("source", "term"): "read",
    ("filter", "term"): "later",
    ("later", "term"): "later",
    ("target", "term"): "written",
}
# A pipeline may end at these places; at all of them but the last one it may also go on.
_ENDS = ("first", "read", "later", "written")
_JOINTS = (";", "&&")


def parse_line(text):
    tokens = _tokens_of(text)
    if not tokens:
        return []
    pipelines = [["", None, [], None]]
    place = "beginning"
    for column, sort, term in tokens:
        after = _place_behind(place, sort)
        if after is None:
            raise BadText(1, column)
        if sort in _JOINTS:
            pipelines.append([sort, None, [], None])
        elif sort == "term":
            _take_term(pipelines[-1], place, term)
        place = after
    if place not in _ENDS:
        raise BadText(1, len(text) + 1)
    return [tuple(pipeline) for pipeline in pipelines]


def print_line(tree):
    if not _is_tree(tree):
        raise BadArgument("tree")
    return " ".join([_print_pipeline(pipeline) for pipeline in tree])


def is_command(x):
    """Tells whether the value is a pair of a text and a list of texts."""
    return is_pair(x) and isinstance(x[0], str) and isinstance(x[1], list) and all(
        isinstance(term, str) for term in x[1])


def _tokens_of(text):
    """The tuples (column, sort, term) of the text; where no token can be read, the last one is a mistake."""
    tokens = []
    at = 0
    behind_term = False
    while at < len(text):
        if text[at] == " ":
            at += 1
            behind_term = False
            continue
        sort, end, term = _token_at(text, at)
        if sort == "mistake" or (sort == "term" and behind_term):
            tokens.append((at + 1, "mistake", ""))
            return tokens
        tokens.append((at + 1, sort, term))
        behind_term = sort == "term"
        at = end
    return tokens


def _token_at(text, at):
    """The sort of the token that begins here, where it ends, and the term for which it stands."""
    if text[at] == "'":
        end = text.find("'", at + 1)
        return ("mistake", at, "") if end < 0 else ("term", end + 1, text[at + 1:end])
    if _is_plain_sign(text[at]):
        end = at
        while end < len(text) and _is_plain_sign(text[end]):
            end += 1
        return ("term", end, text[at:end])
    if text[at:at + 2] == "&&":
        return ("&&", at + 2, "")
    # A sign that is no operator can stand nowhere.
    return (text[at], at + 1, "")


def _is_plain_sign(sign):
    return sign in LETTERS or sign in DIGITS or sign in "/._-"


def _place_behind(place, sort):
    """The place behind a term or operator, or None if it cannot stand in this place."""
    if place in _ENDS and sort in _JOINTS:
        return "beginning"
    if place in _ENDS[:-1] and sort in ("|", ">"):
        return "filter" if sort == "|" else "target"
    return _PLACES.get((place, sort))


def _take_term(pipeline, place, term):
    if place == "source":
        pipeline[1] = term
    elif place == "target":
        pipeline[3] = term
    elif place in ("beginning", "filter"):
        pipeline[2].append((term, []))
    else:
        pipeline[2][-1][1].append(term)


def _is_tree(x):
    if not isinstance(x, list) or len(x) > 20:
        return False
    return all(_is_pipeline(pipeline, number) for number, pipeline in enumerate(x))


def _is_pipeline(x, number):
    if not isinstance(x, tuple) or len(x) != 4:
        return False
    joint, source, commands, target = x
    if joint not in (_JOINTS if number > 0 else ("",)):
        return False
    if not all(path is None or _is_text(path) for path in (source, target)):
        return False
    return isinstance(commands, list) and 1 <= len(commands) <= 8 and all(_is_small(part) for part in commands)


def _is_small(x):
    """Tells whether the value is a command that may be printed."""
    return is_command(x) and len(x[1]) <= 8 and _is_text(x[0]) and all(_is_text(term) for term in x[1])


def _is_text(x):
    return isinstance(x, str) and len(x) <= 40 and "'" not in x


def _print_pipeline(pipeline):
    joint, source, commands, target = pipeline
    tokens = [] if joint == "" else [joint]
    tokens.extend(_print_command(commands[0]))
    if source is not None:
        tokens.extend(["<", _print_term(source)])
    for command in commands[1:]:
        tokens.extend(["|", *_print_command(command)])
    if target is not None:
        tokens.extend([">", _print_term(target)])
    return " ".join(tokens)


def _print_command(command):
    name, terms = command
    return [_print_term(term) for term in [name, *terms]]


def _print_term(term):
    plain = term != "" and all(_is_plain_sign(sign) for sign in term)
    return term if plain else "'" + term + "'"
