"""What kind a value is: the helpers that the other modules share."""

CHARACTERS = "\n !\"#$&'()*+,-./0123456789:;<=>?@ABCDEFGHIJKLMNOPQRSTUVWXYZ[\\]^_`abcdefghijklmnopqrstuvwxyz{|}~"
LONGEST_NAME = 20


def is_integer(value):
    """Tell whether a value is an integer (True and False are none)."""
    return isinstance(value, int) and not isinstance(value, bool)


def is_index(value, count):
    """Tell whether a value is an integer from 0 to one less than a count."""
    return is_integer(value) and 0 <= value < count


def is_tuple(value, least, most):
    """Tell whether a value is a tuple with a number of items between two bounds."""
    return isinstance(value, tuple) and least <= len(value) <= most


def is_word_part(text):
    """Tell whether a string is made of letters and digits, at least one."""
    return text.isascii() and text.isalnum()


def is_name(value):
    """Tell whether a value is a name."""
    if not isinstance(value, str) or not 1 <= len(value) <= LONGEST_NAME:
        return False
    return is_word_part(value) and not value[0].isdigit()


def is_terminal_name(value):
    """Tell whether a value is a name that begins with a small letter."""
    return is_name(value) and value[0].islower()


def is_nonterminal_name(value):
    """Tell whether a value is a name that begins with a capital letter."""
    return is_name(value) and value[0].isupper()


def is_ascending(values):
    """Tell whether each of some comparable values is less than the one behind it."""
    return all(one < other for one, other in zip(values, values[1:]))


def is_text(value, most):
    """Tell whether a value is a string of at most so many characters."""
    if not isinstance(value, str) or len(value) > most:
        return False
    return all(sign in CHARACTERS for sign in value)


def is_letters(value):
    """Tell whether a value is a string of ascending characters, at least one."""
    return is_text(value, len(CHARACTERS)) and value != "" and is_ascending(value)


def bit_places(bits):
    """Return the ascending list of the places of the ones of an integer from 0 on, written in twos."""
    places = []
    while bits:
        low = bits & -bits
        places.append(low.bit_length() - 1)
        bits = bits ^ low
    return places
