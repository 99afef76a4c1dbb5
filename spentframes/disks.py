"""Disks: what the nodes of a keeper know, and what they send by it.

A disk is (word, known, ends). A source knows (spent, row, acked, risen): the numbers of the paths that earlier orders
have spent, and its sender. A sink knows its row. Another node knows which frames and acknowledgements of paths have
come, in their order. The ends are those of the node's thick links, ascending.
"""

from spentframes.cuts import is_thick
from spentframes.ends import ack_frame, hear_ack, hear_frame, hear_rise, sent_frame
from spentframes.wiring import ACKED, CAME, end_cleared, end_echoed, end_hearing, end_sending, first_end


def first_disk(net, node):
    """Return the disk of a node that knows nothing yet."""
    ends = tuple([first_end(link) for link in net.links_of(node) if is_thick(net, link)])
    return _blank_disk(net, node, (), ends)


def _blank_disk(net, node, spent, ends):
    """Return the disk of a node that knows nothing of its order yet."""
    if node == net.source:
        return "source", (spent, (), 1, 0), ends
    return "sink" if node == net.sink else "relay", (), ends


def changed_disk(net, node, disk, spent):
    """Return the disk of a node behind a change of the order; these paths are spent."""
    return _blank_disk(net, node, spent, disk[2])


def spent_by(disk):
    """Return the numbers of the paths that earlier orders have spent, by the source's disk."""
    return disk[1][0]


def sender_of(disk):
    """Return the sender of the source's disk."""
    _, row, acked, risen = disk[1]
    return row, acked == 1, risen


def _with_sender(disk, sender):
    """Return the source's disk with a sender."""
    word, known, ends = disk
    row, acked, risen = sender
    return word, (known[0], row, 1 if acked else 0, risen), ends


def _end_of_link(disk, link):
    """Return the end of a thick link on a disk."""
    return [end for end in disk[2] if end[0] == link][0]


def _with_end(disk, new):
    """Return a disk with a new end in the place of the one of the same link."""
    word, known, ends = disk
    return word, known, tuple([new if end[0] == new[0] else end for end in ends])


def _with_number_sent(wiring, node, disk, path):
    """Return the disk of a node that begins to send a path's number if the path's next hop is over a thick link."""
    link = wiring.thick_hop(wiring.going, node, path)
    if link is None:
        return disk
    return _with_end(disk, end_sending(_end_of_link(disk, link), wiring.digits_of(path)))


def _with_number_done(wiring, node, disk, path):
    """Return the disk of a node that has done with a path's number if it came over a thick link."""
    link = wiring.thick_hop(wiring.coming, node, path)
    if link is None:
        return disk
    return _with_end(disk, end_cleared(_end_of_link(disk, link)))


def _with_next_sent(wiring, node, disk, sender):
    """Return the source's disk with a sender behind a step, which may send a new frame."""
    before = sender_of(disk)
    disk = _with_sender(disk, sender)
    if len(sender[0]) == len(before[0]):
        return disk
    return _with_number_sent(wiring, node, disk, sender[0][-1])


def disk_behind_rise(wiring, disk, state):
    """Return the source's disk behind a rise to a state."""
    return _with_next_sent(wiring, wiring.net.source, disk, hear_rise(wiring.code, sender_of(disk), state))


def _behind_frame(wiring, node, disk, path):
    """Return a disk behind the coming of a path's frame; the same one if that is not new."""
    word, known, ends = disk
    if word == "sink":
        return _with_number_done(wiring, node, (word, hear_frame(known, path), ends), path)
    if (path, CAME) in known:
        return disk
    return _with_number_sent(wiring, node, (word, known + ((path, CAME),), ends), path)


def _behind_ack(wiring, node, disk, path):
    """Return a disk behind the coming of a path's acknowledgement; the same one if that is not new."""
    word, known, ends = disk
    if word == "source":
        sender = sender_of(disk)
        if sent_frame(sender) != path:
            return disk
        return _with_next_sent(wiring, node, disk, hear_ack(wiring.code, sender, path))
    if (path, ACKED) in known:
        return disk
    return _with_number_done(wiring, node, (word, known + ((path, ACKED),), ends), path)


def _path_sent(disk):
    """Return the path whose number a node is sending: the last one that it knows of."""
    return sent_frame(sender_of(disk)) if disk[0] == "source" else disk[1][-1][0]


def _behind_letter(wiring, node, disk, link, letter):
    """Return a disk behind a letter on a thick link; the same one if it is the last letter again."""
    end = _end_of_link(disk, link)
    if letter == end[1]:
        return disk
    end = end_hearing(end, letter)
    path = wiring.path_told(end[3])
    disk = _with_end(disk, end)
    return disk if path is None else _behind_frame(wiring, node, disk, path)


def _behind_echo(wiring, node, disk, link, letter):
    """Return a disk behind an echo on a thick link; the same one if it is not awaited."""
    end = _end_of_link(disk, link)
    if end[2] == 0 or letter != end[1]:
        return disk
    path = _path_sent(disk)
    end = end_echoed(end)
    disk = _with_end(disk, end)
    return disk if end[2] == 1 else _behind_ack(wiring, node, disk, path)


def disk_behind_frame(wiring, node, disk, triple):
    """Return the disk of a node to which a frame comes by a link and a way."""
    link, way, frame = triple
    if link in wiring.letters:
        if way == wiring.letters[link]:
            return _behind_letter(wiring, node, disk, link, frame)
        return _behind_echo(wiring, node, disk, link, frame)
    if triple not in wiring.marks:
        return disk
    path, mark = wiring.marks[triple]
    if mark == CAME:
        return _behind_frame(wiring, node, disk, path)
    return _behind_ack(wiring, node, disk, path)


def _marks_sent(disk):
    """Return couples of a path and what a node sends on of it, those that came last at the end."""
    word, known, _ = disk
    if word == "relay":
        return known
    if word == "source":
        frame = sent_frame(sender_of(disk))
        return () if frame is None else ((frame, CAME),)
    frame = ack_frame(known)
    return () if frame is None else ((frame, ACKED),)


def _letters_sent(wiring, node, disk):
    """Return the triples of the letters and echoes that a node sends over thick links."""
    triples = []
    for link, letter, awaited, digits in disk[2]:
        if link not in wiring.letters or letter is None:
            continue
        way = wiring.letters[link]
        if wiring.net.sender(link, way) == node:
            if awaited == 1:
                triples.append((link, way, letter))
        elif wiring.path_told(digits) is None:
            # The echo of a number's last letter is held back until the path's acknowledgement has come.
            triples.append((link, 1 - way, letter))
    return triples


def frames_sent(wiring, node, disk):
    """Return all triples (link, way, frame) that a node sends by its disk, ascending."""
    sent = {}
    for path, mark in _marks_sent(disk):
        hop = wiring.going[(node, path)] if mark == CAME else wiring.coming[(node, path)]
        link, way, frame = hop if mark == CAME else (hop[0], 1 - hop[1], hop[2])
        if wiring.net.links[link][3] == "loose":
            sent[(link, way, frame)] = (link, way, frame)
        elif not is_thick(wiring.net, link):
            # On a thin way what came last takes the place of what came before.
            sent[(link, way)] = (link, way, frame)
    return sorted(list(sent.values()) + _letters_sent(wiring, node, disk))
