"""What is asked of arguments: the one helper of the package."""

from wardwork.errors import BadArgument

# The number of words; machine arithmetic is modulo this number.
WORDS = 65536
LETTERS = "abcdefghijklmnopqrstuvwxyz"
DIGITS = "0123456789"


def is_integer(x):
    # A bool is an int for Python, but not an integer of the document.
    return isinstance(x, int) and not isinstance(x, bool)


def is_in_range(x, least, most):
    return is_integer(x) and least <= x <= most


def is_word(x):
    return is_in_range(x, 0, WORDS - 1)


def are_words(parts):
    return all(is_word(part) for part in parts)


def is_list_of_words(x, least, most):
    return isinstance(x, list) and least <= len(x) <= most and are_words(x)


def are_different(x):
    """Tells whether the value is a list of integers without duplicates."""
    return isinstance(x, list) and all(is_integer(part) for part in x) and len(set(x)) == len(x)


def is_pair(x):
    return isinstance(x, tuple) and len(x) == 2


def ask_range(name, number, least, most):
    if not is_in_range(number, least, most):
        raise BadArgument(name)


def ask_word(name, word):
    if not is_word(word):
        raise BadArgument(name)


def ask_truth(name, truth):
    if not isinstance(truth, bool):
        raise BadArgument(name)


def ask_words(name, words, least, most):
    """Asks for a list of words whose length is from least to most."""
    if not is_list_of_words(words, least, most):
        raise BadArgument(name)


def ask_first_words(name, words, most):
    """Asks for a list or a tuple of at most so many words."""
    if not isinstance(words, (list, tuple)) or len(words) > most or not are_words(words):
        raise BadArgument(name)
