"""The forms of words, values, messages and rows, asked of any value."""

BOUND = 99
LETTERS = "abcdefghijklmnopqrstuvwxyz"
LONGEST_WORD = 6
# No tuple in a state is within more than six others.
DEEPEST_TREE = 7


def is_number(value):
    """Whether it is an integer (a bool is none)."""
    return isinstance(value, int) and not isinstance(value, bool)


def is_value(value):
    """Whether it is an integer within the bounds."""
    return is_number(value) and -BOUND <= value <= BOUND


def is_word(value):
    """Whether it is a string of one to six letters from a to z."""
    if not isinstance(value, str) or not 1 <= len(value) <= LONGEST_WORD:
        return False
    return all([letter in LETTERS for letter in value])


def is_list(value):
    """Whether it is a list, or a tuple in its place."""
    return isinstance(value, (list, tuple))


def is_tuple_of(value, length):
    """Whether it is a tuple of this length."""
    return isinstance(value, tuple) and len(value) == length


def is_message(value):
    """Whether it is a tuple (kind, key, value)."""
    return is_tuple_of(value, 3) and is_word(value[0]) and is_word(value[1]) and is_value(value[2])


def is_row(value):
    """Whether it is a tuple ((name, key), value) of rows."""
    if not is_tuple_of(value, 2) or not is_tuple_of(value[0], 2):
        return False
    (name, key), held = value
    return is_word(name) and is_word(key) and is_value(held) and held != 0


def is_rows(value):
    """Whether it is a tuple of rows, ascending, each (name, key) once."""
    if not isinstance(value, tuple) or not all([is_row(row) for row in value]):
        return False
    places = [row[0] for row in value]
    return all([one < other for one, other in zip(places, places[1:])])


def is_tree(value, deep=DEEPEST_TREE):
    """Whether it is a tree of tuples, strings, integers and None, at most so deep."""
    if not isinstance(value, tuple):
        return value is None or isinstance(value, str) or is_number(value)
    if deep == 0:
        return False
    return all([is_tree(part, deep - 1) for part in value])
