"""Desks: an order, a net, a keeper and a system, changed by deeds that can be taken back."""

from spentframes.cuts import least_cut
from spentframes.deeds import has_form
from spentframes.errors import NoDeed, NoSystem
from spentframes.foe import break_by
from spentframes.keeper import Keeper, keeper_text, keeper_twin, read_keeper
from spentframes.needs import need_of
from spentframes.nets import Net
from spentframes.orders import Order
from spentframes.systems import System
from spentframes.tables import NodeTable
from spentframes.verdicts import judge
from spentframes.wholes import as_tuples


def _twin_of(keeper):
    """Return a twin of a keeper, None for none."""
    return None if keeper is None else keeper_twin(keeper)


def _frames_sent_by(keeper):
    """Return the triples (link, way, frame) that a keeper has sent so far, none without a keeper."""
    if keeper is None:
        return []
    ways = [(link, way) for link in range(len(keeper.net)) for way in range(2)]
    return [(link, way, frame) for link, way in ways for frame in keeper.sent_on(link, way)]


class Trial:
    """A block of deeds of a desk, behind which the desk is as it was before."""

    def __init__(self, desk):
        self.desk = desk

    def __enter__(self):
        desk = self.desk
        self.order = desk.order
        self.net = desk.net
        self.keeper = desk.keeper
        self.system = desk.system
        self.log = desk.log
        self.past = desk.past
        # The block is given a keeper of its own, as deeds change a keeper.
        desk.keeper = _twin_of(desk.keeper)
        return desk

    def __exit__(self, kind, value, trace):
        desk = self.desk
        desk.order = self.order
        desk.net = self.net
        desk.keeper = self.keeper
        desk.system = self.system
        desk.log = self.log
        desk.past = self.past


class Desk:
    """An order, a net, a keeper and a system, and the log of the deeds that led to them."""

    def __init__(self):
        self.order = None
        self.net = None
        self.keeper = None
        self.system = None
        self.log = ()
        # What all was ahead of each deed of the log.
        self.past = ()

    def __len__(self):
        return len(self.log)

    def __iter__(self):
        return iter(self.log)

    def do(self, deed):
        """Do a deed, and return its answer."""
        if not has_form(deed):
            raise NoDeed(deed)
        if deed[0] == "back":
            return self._take_back(deed)
        before = (self.order, self.net, self.system, None if self.keeper is None else self.keeper.snapshot())
        answer = self._answer(deed)
        self.log = self.log + (as_tuples(deed),)
        self.past = self.past + (before,)
        return answer

    def _take_back(self, deed):
        """Take the last deed of the log back, and return it."""
        if not self.log:
            raise NoDeed(deed)
        last = self.log[-1]
        self.order, self.net, self.system, snapshot = self.past[-1]
        if snapshot is None:
            self.keeper = None
        else:
            self.keeper.return_to(snapshot)
        self.log = self.log[:-1]
        self.past = self.past[:-1]
        return last

    def _answer(self, deed):
        """Do a deed that has the form of one, and return its answer."""
        if deed[0] in ("order", "net", "start"):
            return self._prepare(deed)
        if deed[0] == "tables":
            return self._put_tables(deed)
        if self.keeper is None:
            raise NoDeed(deed)
        if deed[0] == "calm":
            return len(self.keeper.calm_down())
        if deed[0] == "change":
            self.keeper.change_order(Order(deed[1], deed[2]))
            self.order = self.keeper.order
            return self.keeper.left_now
        return self._carry() if deed[0] == "carry" else self._do_by_keeper(deed)

    def _prepare(self, deed):
        """Do a deed that is done ahead of the start, or the start itself."""
        if self.keeper is not None:
            raise NoDeed(deed)
        if deed[0] == "order":
            self.order = Order(deed[1], deed[2])
            return need_of(self.order)
        if deed[0] == "net":
            self.net = Net(deed[1], deed[2], deed[3], deed[4])
            return least_cut(self.net)[0]
        self._check_laid(deed)
        self.keeper = Keeper(self.order, self.net)
        return self.keeper.left_now

    def _check_laid(self, deed):
        """Raise NoDeed if there is no order or no net on the desk."""
        if self.order is None or self.net is None:
            raise NoDeed(deed)

    def _put_tables(self, deed):
        """Put a system of node tables on the desk, and return their number."""
        self._check_laid(deed)
        tables = [NodeTable(sends, moves, rises, shows) for sends, moves, rises, shows in deed[1]]
        self.system = System(self.net, tables, self.order, None, _frames_sent_by(self.keeper))
        return len(tables)

    def _carry(self):
        """Put a keeper that is read from the keeper's text in its place, and return the text."""
        text = keeper_text(self.keeper)
        self.keeper = read_keeper(text)
        self.order = self.keeper.order
        return text

    def _do_by_keeper(self, deed):
        """Let the keeper do a deed or a part of one, and return the state shown."""
        try:
            if deed[0] == "part":
                return self.keeper.do_part(deed[1], deed[2])
            return self.keeper.do_deed(deed)
        except NoDeed:
            raise NoDeed(deed) from None

    def _check_system(self):
        """Raise NoSystem if there is no system on the desk."""
        if self.system is None:
            raise NoSystem()

    def verdict_now(self):
        """Return None if the system is right, else what breaks it."""
        self._check_system()
        return judge(self.system)

    def broken_now(self, side):
        """Return what breaks the system across a side, or how each route is told."""
        self._check_system()
        return break_by(self.system, side)

    def tried(self, work):
        """Call a function with the desk, return what it returns, and leave the desk as it was before."""
        with self.trial() as held:
            return work(held)

    def trial(self):
        """Return an object for `with`, behind whose block the desk is as it was before."""
        return Trial(self)
