"""Of what kind a value is. The kind is asked first, so that no value is asked whether it is equal."""


def is_whole(value):
    """Whether it is an integer; True and False are none."""
    return isinstance(value, int) and not isinstance(value, bool)


def is_within(value, least, most):
    """Whether it is an integer from the least to the most."""
    return is_whole(value) and least <= value <= most


def is_one_of(value, words):
    """Whether it is one of the words."""
    return isinstance(value, str) and value in words


def is_row_of(value, many):
    """Whether it is a tuple of so many things."""
    return isinstance(value, tuple) and len(value) == many


def are_words(value, many):
    """Whether it is a tuple of 1 or 0 for each of so many STEPS."""
    if not is_row_of(value, many):
        return False
    for word in value:
        if not is_within(word, 0, 1):
            return False
    return True
