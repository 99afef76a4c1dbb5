"""Which path of a keeper a frame on a link belongs to, and how a path's number goes over a thick link."""

from spentframes.cuts import is_thick
from spentframes.streams import digit_behind, frame_behind

# A path's number is told in letters by digits 0 and 1, as each letter differs from the one before.
LETTERS = 3
CAME = 1
ACKED = 2


class Wiring:
    """The paths of a code through a net, one for each frame, looked up by node, link and frame.

    `marks` tells for a triple (link, way, frame) of a link that is not thick the path whose frame (CAME) or whose
    acknowledgement (ACKED) it is. `coming` and `going` tell the hop of a path that leads to a node and the one that
    leaves it, `letters` the way on which numbers go over a thick link.
    """

    def __init__(self, net, code, paths):
        self.net = net
        self.code = code
        self.paths = paths
        self.marks = {}
        self.coming = {}
        self.going = {}
        self.letters = {}
        self.many_digits = max(1, (len(paths) - 1).bit_length())
        for at, path in enumerate(paths):
            for hop in path:
                self._add_hop(at, hop)

    def _add_hop(self, at, hop):
        """Take up a hop of a path."""
        link, way, frame = hop
        self.going[(self.net.sender(link, way), at)] = hop
        self.coming[(self.net.receiver(link, way), at)] = hop
        if is_thick(self.net, link):
            self.letters[link] = way
        else:
            self.marks[hop] = (at, CAME)
            self.marks[(link, 1 - way, frame)] = (at, ACKED)

    def thick_hop(self, hops, node, path):
        """Return the link of the hop of a path at a node, of those coming or going, if it is thick, else None."""
        link = hops[(node, path)][0]
        return link if is_thick(self.net, link) else None

    def digits_of(self, path):
        """Return the digits of a path's number, the lowest one first."""
        digits = ()
        for _ in range(self.many_digits):
            digits = digits + (path & 1,)
            path = path >> 1
        return digits

    def path_told(self, digits):
        """Return the number of the path that digits tell, None if there are too few of them."""
        if len(digits) < self.many_digits:
            return None
        path = 0
        for digit in digits[::-1]:
            path = 2 * path + digit
        return path


def first_end(link):
    """Return what an end of a thick link knows at first: (link, letter, awaited, digits).

    The last letter that was sent or has come; whether its echo is awaited, 0 or 1; the digits that are still to be sent
    behind it, or those that have come so far of a number.
    """
    return link, None, 0, ()


def end_sending(end, digits):
    """Return an end that sends the first of these digits, with the others behind it."""
    link, letter, _, _ = end
    return link, frame_behind(LETTERS, letter, digits[0]), 1, digits[1:]


def end_echoed(end):
    """Return an end to which the awaited echo has come."""
    link, letter, _, digits = end
    return end_sending(end, digits) if digits else (link, letter, 0, ())


def end_hearing(end, letter):
    """Return an end to which a new letter has come."""
    link, before, _, digits = end
    return link, letter, 0, digits + (digit_behind(LETTERS, before, letter),)


def end_cleared(end):
    """Return an end that has done with a number, so that its last letter is echoed."""
    link, letter, _, _ = end
    return link, letter, 0, ()
