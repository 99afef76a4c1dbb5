"""Stories: sequences of deeds of a desk, played, judged, and told as texts."""

from spentframes.datatext import data_text, read_data
from spentframes.deeds import has_form
from spentframes.desk import Desk
from spentframes.errors import BadShape, FrameError
from spentframes.wholes import is_sequence


def play_story(deeds):
    """Return a new desk that has done deeds."""
    desk = Desk()
    for deed in deeds:
        desk.do(deed)
    return desk


def story_fault(deeds):
    """Return the index of the first deed that is refused, -1 if the deeds are no sequence, None if all can be done."""
    if not is_sequence(deeds):
        return -1
    desk = Desk()
    for at, deed in enumerate(deeds):
        try:
            desk.do(deed)
        except FrameError:
            return at
    return None


def story_answers(deeds):
    """Yield the answers to deeds."""
    desk = Desk()
    for deed in deeds:
        yield desk.do(deed)


def story_text(deeds):
    """Return the text of a story."""
    return data_text(tuple(deeds))


def read_story(text):
    """Return the story of a text."""
    deeds = read_data(text)
    if not isinstance(deeds, tuple):
        raise BadShape(())
    for at, deed in enumerate(deeds):
        if not has_form(deed):
            raise BadShape((at,))
    return deeds
