"""Plain data and their texts."""

from spentframes.errors import BadData, BadText
from spentframes.wholes import is_sequence, is_whole

MOST_NUMBER = 999999999
MOST_FIGURES = 9
MOST_LETTERS = 20
MOST_LEVELS = 12


def _is_letter(sign):
    """Tell whether a string of at most one sign is a letter a to z."""
    return "a" <= sign <= "z"


def _is_figure(sign):
    """Tell whether a string of at most one sign is a figure 0 to 9."""
    return "0" <= sign <= "9"


def is_word(thing):
    """Tell whether a thing is a string of 1 to 20 letters a to z."""
    if not isinstance(thing, str) or not 1 <= len(thing) <= MOST_LETTERS:
        return False
    return all([_is_letter(sign) for sign in thing])


def _checked(data, path):
    """Return data with tuples in the place of lists; the path leads to them from the whole."""
    if data is None or is_word(data) or is_whole(data, 0, MOST_NUMBER):
        return data
    # The path to a part has as many numbers as there are tuples around it.
    if not is_sequence(data) or len(path) >= MOST_LEVELS:
        raise BadData(path)
    return tuple([_checked(part, path + (at,)) for at, part in enumerate(data)])


def check_data(data):
    """Return the data with tuples in the place of lists, or raise BadData with the path of the first wrong part."""
    return _checked(data, ())


def _text_of(data):
    """Return the text of data that are checked."""
    if data is None:
        return "-"
    if isinstance(data, tuple):
        return "(" + " ".join([_text_of(part) for part in data]) + ")"
    return str(data)


def data_text(data):
    """Return the text of data."""
    return _text_of(check_data(data))


def _read_number(text, place):
    """Return the number whose first figure stands at a place, and the place behind it."""
    end = place + 1
    if text[place] != "0":
        while end < place + MOST_FIGURES and _is_figure(text[end:end + 1]):
            end += 1
    return int(text[place:end]), end


def _read_word(text, place):
    """Return the word whose first letter stands at a place, and the place behind it."""
    end = place + 1
    while end < place + MOST_LETTERS and _is_letter(text[end:end + 1]):
        end += 1
    return text[place:end], end


def _read_tuple(text, place, level):
    """Return the tuple whose bracket stands ahead of a place, and the place behind it."""
    if text[place:place + 1] == ")":
        return (), place + 1
    parts = []
    while True:
        part, place = _read_part(text, place, level)
        parts.append(part)
        sign = text[place:place + 1]
        if sign == ")":
            return tuple(parts), place + 1
        if sign != " ":
            raise BadText(place)
        place += 1


def _read_part(text, place, level):
    """Return the data whose text begins at a place within `level` tuples, and the place behind it."""
    # Slices are taken, as there is no sign behind the end of the text.
    sign = text[place:place + 1]
    if sign == "-":
        return None, place + 1
    if _is_figure(sign):
        return _read_number(text, place)
    if _is_letter(sign):
        return _read_word(text, place)
    if sign == "(" and level < MOST_LEVELS:
        return _read_tuple(text, place + 1, level + 1)
    raise BadText(place)


def read_data(text):
    """Return the data of a text, or raise BadText with the length of its longest beginning that can be right."""
    data, place = _read_part(text, 0, 0)
    if place < len(text):
        raise BadText(place)
    return data
