"""The forms of the deeds of a desk."""

from spentframes.wholes import is_sequence

# For each word the number of items of its deed, the word counted.
FORMS = {
    "order": 3, "net": 5, "start": 1, "rise": 2, "deliver": 4, "stop": 2, "wake": 2, "part": 3, "calm": 1, "change": 3,
    "carry": 1, "tables": 2, "back": 1}
KEEPER_WORDS = ("rise", "deliver", "stop", "wake")
TABLE_ITEMS = 4


def _has_number(deed):
    """Tell whether a thing is a sequence of a word and the number of items of its deed."""
    if not is_sequence(deed) or len(deed) == 0 or not isinstance(deed[0], str):
        return False
    return FORMS.get(deed[0]) == len(deed)


def _are_fours(thing):
    """Tell whether a thing is a sequence of sequences of four."""
    return is_sequence(thing) and all([is_sequence(item) and len(item) == TABLE_ITEMS for item in thing])


def has_form(deed):
    """Tell whether a thing has the form of a deed."""
    if not _has_number(deed):
        return False
    if deed[0] == "part":
        return _has_number(deed[1]) and deed[1][0] in KEEPER_WORDS
    return deed[0] != "tables" or _are_fours(deed[1])
