"""Node tables: finite programs for the nodes of a net."""

from spentframes.datatext import data_text
from spentframes.errors import BadTable, NoSeat
from spentframes.shapes import read_shaped
from spentframes.wholes import is_sequence, is_whole

MOST_SEATS = 50000
MOST_LINK = 11
MOST_FRAME = 5
MOST_STATE = 23
_TABLE_SHAPE = (
    "parts", ("the", "table"),
    ("row", ("row", ("parts", ("whole", 0, 11), ("whole", 0, 5)))),
    ("row", ("row", ("parts", ("whole", 0, 11), ("whole", 0, 5), ("whole", 0, 49999)))),
    ("maybe", ("row", ("row", ("parts", ("whole", 0, 23), ("whole", 0, 49999))))),
    ("maybe", ("row", ("whole", 0, 23))))


def _check_lengths(sends, moves, rises, shows):
    """Raise BadTable if the four are no sequences with one item for each seat; rises and shows may be None."""
    if not is_sequence(sends) or not 1 <= len(sends) <= MOST_SEATS:
        raise BadTable("sends", 0)
    if not is_sequence(moves) or len(moves) != len(sends):
        raise BadTable("moves", 0)
    if rises is not None and (not is_sequence(rises) or len(rises) != len(sends)):
        raise BadTable("rises", 0)
    if shows is not None and (not is_sequence(shows) or len(shows) != len(sends)):
        raise BadTable("shows", 0)


def _fits_highs(row, highs):
    """Tell whether a thing is a sequence of as many whole numbers as there are bounds, each from 0 to its bound."""
    if not is_sequence(row) or len(row) != len(highs):
        return False
    return all([is_whole(number, 0, high) for number, high in zip(row, highs)])


def _are_rows(rows, highs, many):
    """Tell whether a thing is a sequence of rows that fit the bounds, no two with the same first `many` numbers."""
    if not is_sequence(rows) or not all([_fits_highs(row, highs) for row in rows]):
        return False
    return len({tuple(row[:many]) for row in rows}) == len(rows)


def _seat_fault(sends, moves, rises, shows, seat):
    """Return the word of what is wrong with a seat, or None."""
    last = len(sends) - 1
    if not _are_rows(sends[seat], (MOST_LINK, MOST_FRAME), 2):
        return "sends"
    if not _are_rows(moves[seat], (MOST_LINK, MOST_FRAME, last), 2):
        return "moves"
    if rises is not None and not _are_rows(rises[seat], (MOST_STATE, last), 1):
        return "rises"
    if shows is not None and not is_whole(shows[seat], 0, MOST_STATE):
        return "shows"
    return None


def _ascending(seats):
    """Return the couples or triples of all seats as tuples, those of each seat ascending."""
    return tuple([tuple(sorted([tuple(row) for row in rows])) for rows in seats])


class NodeTable:
    """What a node sends in each seat, where frames and rises lead it from there, and what it shows."""

    def __init__(self, sends, moves, rises=None, shows=None):
        _check_lengths(sends, moves, rises, shows)
        for seat in range(len(sends)):
            word = _seat_fault(sends, moves, rises, shows, seat)
            if word is not None:
                raise BadTable(word, seat)
        self.sends = _ascending(sends)
        self.moves = _ascending(moves)
        self.rises = None if rises is None else _ascending(rises)
        self.shows = None if shows is None else tuple(shows)
        # A search through many standings asks for the next seat far more often than all else.
        self._nexts = [{(link, frame): after for link, frame, after in triples} for triples in self.moves]

    def __len__(self):
        return len(self.sends)

    def __eq__(self, other):
        return (isinstance(other, NodeTable) and self.sends == other.sends and self.moves == other.moves
                and self.rises == other.rises and self.shows == other.shows)

    def _check_seat(self, seat):
        """Raise NoSeat if the table does not have a seat."""
        if not is_whole(seat, 0, len(self.sends) - 1):
            raise NoSeat(seat)

    def next_seat(self, seat, link, frame):
        """Return the seat to which a frame leads that comes in on a link."""
        self._check_seat(seat)
        return self._nexts[seat].get((link, frame), seat)

    def next_on_rise(self, seat, state):
        """Return the seat to which a rise of the source's state leads."""
        self._check_seat(seat)
        if self.rises is None:
            return seat
        for risen, after in self.rises[seat]:
            if risen == state:
                return after
        return seat


def table_text(table):
    """Return the text of a node table."""
    return data_text(("table", table.sends, table.moves, table.rises, table.shows))


def read_table(text):
    """Return the node table of a text."""
    _, sends, moves, rises, shows = read_shaped(text, _TABLE_SHAPE)
    return NodeTable(sends, moves, rises, shows)
