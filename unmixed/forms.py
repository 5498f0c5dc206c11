"""The forms of words, counts, marks, views and deeds, judged of any object, before any history is known."""

LONGEST_WORD = 8


def is_word(value):
    """Return whether any object is a string of one to eight letters a to z."""
    if not isinstance(value, str) or not 1 <= len(value) <= LONGEST_WORD:
        return False
    return value.isascii() and value.isalpha() and value.islower()


def is_word_list(value):
    """Return whether any object is a list of words, perhaps empty."""
    return isinstance(value, list) and all([is_word(word) for word in value])


def is_count(value):
    """Return whether any object is a whole number of at least 0."""
    # Python takes True and False for integers; the document never does.
    return isinstance(value, int) and value is not True and value is not False and value >= 0


def has_mark_form(value):
    """Return whether any object is a tuple of a hand and a count."""
    return isinstance(value, tuple) and len(value) == 2 and is_word(value[0]) and is_count(value[1])


def has_view_form(value):
    """Return whether any object is a dictionary from hands to counts from 1 on."""
    if not isinstance(value, dict):
        return False
    for hand, count in value.items():
        if not is_word(hand) or not is_count(count) or count == 0:
            return False
    return True


def has_deed_form(value):
    """Return whether any object is a put or a strike, whatever its marks and its past refer to."""
    if not isinstance(value, tuple):
        return False
    if len(value) == 5 and value[0] == "put":
        return is_word(value[1]) and is_neighbour(value[2]) and is_neighbour(value[3]) and has_view_form(value[4])
    return len(value) == 3 and value[0] == "strike" and has_mark_form(value[1]) and has_view_form(value[2])


def is_neighbour(value):
    """Return whether any object is a mark, or None for the row's begin or its end."""
    return value is None or has_mark_form(value)


def has_deeds_form(value):
    """Return whether any object is a dictionary from hands to lists, none of them empty, of deeds."""
    if not isinstance(value, dict):
        return False
    for hand, listed in value.items():
        if not is_word(hand) or not is_deed_list(listed):
            return False
    return True


def is_deed_list(value):
    """Return whether any object is a list of at least one deed."""
    return isinstance(value, list) and len(value) > 0 and all([has_deed_form(deed) for deed in value])


def is_list_of(value, marks):
    """Return whether any object is a list of ascending marks, each once, in any sequence."""
    if not isinstance(value, list) or len(value) != len(marks):
        return False
    return all([has_mark_form(mark) for mark in value]) and sorted(value) == marks
