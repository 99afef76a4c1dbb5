"""The two ends: a sender that spends its frames one by one, and a receiver that keeps them in their order."""

from spentframes.coursing import pieces_at, read_place
from spentframes.rows import begins_row


def start_sender():
    """Return the sender that has sent nothing yet."""
    return (), True, 0


def sent_frame(sender):
    """Return the frame that a sender is sending, or None."""
    row, acked, _ = sender
    return None if acked else row[-1]


def _aim(code, row, risen):
    """Return (cover, frame) with the least cover that can be told next and the frame that comes next for it."""
    place = read_place(code, row)
    for cover, piece in pieces_at(code, place.state, place.unspent):
        if code.order.at_most(cover, risen) and begins_row(place.begun, piece):
            return cover, piece[len(place.begun)]
    return None, None


def aim_of(code, row, risen):
    """Return the least cover that the frames begun can tell and that is at most the source's state, or None."""
    cover, _ = _aim(code, row, risen)
    return cover


def aim_frame(code, row, risen):
    """Return the next frame for the aim, or None if there is no aim."""
    _, frame = _aim(code, row, risen)
    return frame


def _gone_on(code, row, risen):
    """Return the sender behind a row whose last frame is acknowledged."""
    frame = aim_frame(code, row, risen)
    if frame is None:
        return row, True, risen
    return row + (frame,), False, risen


def hear_rise(code, sender, state):
    """Return the sender behind a rise of the source to a state."""
    row, acked, _ = sender
    if acked:
        return _gone_on(code, row, state)
    return row, False, state


def hear_ack(code, sender, frame):
    """Return the sender behind an acknowledgement of a frame."""
    row, acked, risen = sender
    if acked or row[-1] != frame:
        return sender
    return _gone_on(code, row, risen)


def hear_frame(row, frame):
    """Return the receiver's row behind a frame."""
    return tuple(row) if frame in row else tuple(row) + (frame,)


def ack_frame(row):
    """Return the frame that the receiver acknowledges, or None."""
    return row[-1] if row else None
