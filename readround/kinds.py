"""What kind of thing a value is."""

LETTERS = "abcdefghijklmnopqrstuvwxyz"
LONGEST_NAME = 8


def is_number(value):
    """Tell whether value is a whole number."""
    # Python counts True and False among the integers, the document does not.
    return isinstance(value, int) and not isinstance(value, bool)


def is_number_from(value, low):
    """Tell whether value is a number that is not below low."""
    return is_number(value) and low <= value


def is_number_within(value, low, high):
    """Tell whether value is a number from low to high, both counted in."""
    return is_number(value) and low <= value <= high


def is_truth(value):
    """Tell whether value is True or False, and not a number that equals one of them."""
    return isinstance(value, bool)


def is_name(value):
    """Tell whether value is a text of 1 to 8 small letters, a to z."""
    if not isinstance(value, str) or not 1 <= len(value) <= LONGEST_NAME:
        return False
    return all([sign in LETTERS for sign in value])


def is_list_within(value, low, high):
    """Tell whether value is a list of low to high things, both counted in."""
    return isinstance(value, list) and low <= len(value) <= high


def is_pair(value):
    """Tell whether value is a tuple of two things."""
    return isinstance(value, tuple) and len(value) == 2


def is_number_pair(value):
    """Tell whether value is a tuple of two numbers."""
    return is_pair(value) and is_number(value[0]) and is_number(value[1])


def are_unlike(names):
    """Tell whether no name stands twice among the names."""
    return len(set(names)) == len(names)
