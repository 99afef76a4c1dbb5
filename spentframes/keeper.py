"""Keepers: nodes that keep a copy of a rising state over any net, though they stop and wake."""

from spentframes.codes import deep_code
from spentframes.coursing import shown_state
from spentframes.cuts import is_thick, least_cut
from spentframes.datatext import data_text, read_data
from spentframes.disks import (
    changed_disk, disk_behind_frame, disk_behind_rise, first_disk, frames_sent, sender_of, spent_by)
from spentframes.errors import BadPart, NoDeed, NotEnough, NotSettled
from spentframes.flows import MOST_PATHS, greatest_paths, shortest_route
from spentframes.needs import need_of
from spentframes.nets import Net
from spentframes.orders import Order
from spentframes.wholes import is_sequence, is_whole
from spentframes.wiring import Wiring


def _thick_path(net):
    """Return a path of thick links alone."""
    ways = [(link, way) for link in range(len(net)) if is_thick(net, link) for way in range(2)]
    return tuple([(link, way, 0) for link, way in shortest_route(net, ways)])


def _with_item(items, at, item):
    """Return a tuple with an item in the place of the one at an index."""
    return items[:at] + (item,) + items[at + 1:]


class Keeper:
    """An order and a net whose nodes tell the states of the source to the sink."""

    def __init__(self, order, net):
        self.net = net
        self._cut = least_cut(net)[0]
        need = need_of(order)
        if self._cut is not None and need > self._cut:
            raise NotEnough(need, self._cut)
        # All paths over which orders can be told, one after another; None where one path is enough for ever.
        self._all_paths = None if self._cut is None else greatest_paths(net, MOST_PATHS)
        self._disks = tuple([first_disk(net, node) for node in range(net.nodes)])
        self._sent = (((), ()),) * len(net)
        self._read = ((0, 0),) * len(net)
        self._asleep = ()
        self._take_order(order)

    def _take_order(self, order):
        """Take up an order, over the first paths that earlier orders have not spent."""
        self.order = order
        self.code = deep_code(order, need_of(order))
        if self._all_paths is None:
            self._numbers = ()
            self.paths = (_thick_path(self.net),) * self.code.m
        else:
            spent = spent_by(self._disks[self.net.source])
            left = [at for at in range(len(self._all_paths)) if at not in spent]
            self._numbers = tuple(left[:self.code.m])
            self.paths = tuple([self._all_paths[at] for at in self._numbers])
        self._wiring = Wiring(self.net, self.code, self.paths)
        self._shown = shown_state(self.code, self._disks[self.net.sink][1])

    @property
    def shown_now(self):
        """The state that the sink's disk tells."""
        return self._shown

    @property
    def risen_now(self):
        """The source's state by its disk."""
        return sender_of(self._disks[self.net.source])[2]

    @property
    def left_now(self):
        """The number of frames across the least cut that no order has spent, None if there is no end of them."""
        if self._cut is None:
            return None
        disk = self._disks[self.net.source]
        return self._cut - len(spent_by(disk)) - len(sender_of(disk)[0])

    @property
    def asleep_now(self):
        """The nodes asleep, ascending."""
        return self._asleep

    def sent_on(self, link, way):
        """Return the frames ever sent on a way, ascending; on an ordered link those put there, in their order."""
        return self._sent[link][way]

    def read_from(self, link, way):
        """Return the least place that can be read on a way of an ordered link, 0 on a loose one."""
        return self._read[link][way]

    def disk_of(self, node):
        """Return all that a node knows, as data."""
        return self._disks[node]

    def _is_loose(self, link):
        """Tell whether a link is loose."""
        return self.net.links[link][3] == "loose"

    def _items_on(self, link, way):
        """Return what can be delivered on a way: the frames of a loose link, the places of an ordered one."""
        sent = self._sent[link][way]
        return list(sent) if self._is_loose(link) else list(range(self._read[link][way], len(sent)))

    def _deliveries_now(self):
        """Return all deliveries that can be done, ascending."""
        ways = [(link, way) for link in range(len(self.net)) for way in range(2)]
        awake = [(link, way) for link, way in ways if self.net.receiver(link, way) not in self._asleep]
        return [("deliver", link, way, item) for link, way in awake for item in self._items_on(link, way)]

    def deeds_now(self):
        """Return all deeds that can be done, ascending."""
        deeds = self._deliveries_now()
        if self.net.source not in self._asleep:
            deeds.extend([("rise", state) for state in self.order.above(self.risen_now)])
        deeds.extend([("stop", node) for node in range(self.net.nodes) if node not in self._asleep])
        return tuple(deeds + [("wake", node) for node in self._asleep])

    def _can_deliver(self, link, way, item):
        """Tell whether an item can be delivered on a way of a link; all three may be anything."""
        if not is_whole(link, 0, len(self.net) - 1) or not is_whole(way, 0, 1) or not is_whole(item):
            return False
        return self.net.receiver(link, way) not in self._asleep and item in self._items_on(link, way)

    def _is_deed(self, deed):
        """Tell whether a thing is a deed that can be done."""
        if not is_sequence(deed):
            return False
        if len(deed) == 4 and deed[0] == "deliver":
            return self._can_deliver(deed[1], deed[2], deed[3])
        if len(deed) != 2 or not is_whole(deed[1]):
            return False
        if deed[0] == "rise":
            return self.net.source not in self._asleep and deed[1] in self.order.above(self.risen_now)
        if deed[0] == "stop":
            return is_whole(deed[1], 0, self.net.nodes - 1) and deed[1] not in self._asleep
        return deed[0] == "wake" and deed[1] in self._asleep

    def _node_of(self, deed):
        """Return the node that a deed reaches."""
        if deed[0] == "deliver":
            return self.net.receiver(deed[1], deed[2])
        return self.net.source if deed[0] == "rise" else deed[1]

    def _disk_behind(self, deed):
        """Return the disk, behind a deed, of the node that it reaches."""
        node = self._node_of(deed)
        if deed[0] == "rise":
            return disk_behind_rise(self._wiring, self._disks[node], deed[1])
        if deed[0] != "deliver":
            return self._disks[node]
        _, link, way, item = deed
        frame = item if self._is_loose(link) else self._sent[link][way][item]
        return disk_behind_frame(self._wiring, node, self._disks[node], (link, way, frame))

    def _is_unsent(self, triple):
        """Tell whether a way does not have a frame yet; on an ordered link, whether it is not the newest one."""
        link, way, frame = triple
        sent = self._sent[link][way]
        return frame not in (sent if self._is_loose(link) else sent[-1:])

    def _check_deed(self, deed):
        """Raise NoDeed if a thing is no deed that can be done."""
        if not self._is_deed(deed):
            raise NoDeed(deed)

    def _steps_to(self, deed, disk):
        """Return the small steps of a deed that leads its node to a disk."""
        if deed[0] == "stop":
            return ()
        node = self._node_of(deed)
        sends = [("send",) + triple for triple in frames_sent(self._wiring, node, disk) if self._is_unsent(triple)]
        return tuple(([] if disk == self._disks[node] else [("write", node)]) + sends)

    def small_steps(self, deed):
        """Return what a deed does, in order: the write to a disk, then the frames that are sent behind it."""
        self._check_deed(deed)
        return self._steps_to(deed, self._disk_behind(deed))

    def _write(self, node, disk):
        """Put a disk in the place of a node's disk."""
        self._disks = _with_item(self._disks, node, disk)
        if node == self.net.sink:
            self._shown = shown_state(self.code, disk[1])

    def _send(self, link, way, frame):
        """Send a frame that its way does not have yet."""
        sent = self._sent[link][way] + (frame,)
        if self._is_loose(link):
            sent = tuple(sorted(sent))
        self._sent = _with_item(self._sent, link, _with_item(self._sent[link], way, sent))

    def _do_steps(self, deed, disk, steps):
        """Do small steps of a deed that leads its node to a disk."""
        for step in steps:
            if step[0] == "write":
                self._write(step[1], disk)
            else:
                self._send(step[1], step[2], step[3])
        if deed[0] == "deliver" and not self._is_loose(deed[1]):
            _, link, way, place = deed
            self._read = _with_item(self._read, link, _with_item(self._read[link], way, place))

    def _put_to_sleep(self, node):
        """Let a node be asleep."""
        self._asleep = tuple(sorted(set(self._asleep + (node,))))

    def do_deed(self, deed):
        """Do a deed, and return the state shown behind it."""
        self._check_deed(deed)
        disk = self._disk_behind(deed)
        self._do_steps(deed, disk, self._steps_to(deed, disk))
        if deed[0] == "stop":
            self._put_to_sleep(deed[1])
        elif deed[0] == "wake":
            self._asleep = tuple([node for node in self._asleep if node != deed[1]])
        return self._shown

    def do_part(self, deed, many):
        """Do the first small steps of a deed, so many, let the node be asleep, and return the state shown then."""
        self._check_deed(deed)
        if deed[0] == "stop":
            raise NoDeed(deed)
        disk = self._disk_behind(deed)
        steps = self._steps_to(deed, disk)
        if not is_whole(many, 0, len(steps)):
            raise BadPart(many)
        self._do_steps(deed, disk, steps[:many])
        self._put_to_sleep(self._node_of(deed))
        return self._shown

    def _is_new(self, deed):
        """Tell whether a delivery changes a disk."""
        return self._disk_behind(deed) != self._disks[self._node_of(deed)]

    def quiet_now(self):
        """Tell whether no delivery that can be done changes a disk."""
        return not any([self._is_new(deed) for deed in self._deliveries_now()])

    def settled_now(self):
        """Tell whether the keeper is quiet, no node is asleep, and the source's state is shown."""
        return self._asleep == () and self._shown == self.risen_now and self.quiet_now()

    def _calm_round(self):
        """Deliver all that tells something new of what was newest on its way when the round began; return the deeds."""
        # An ordered link still has all places at which it can be read, but only the last one is looked at.
        due = [deed for deed in self._deliveries_now() if self._is_loose(deed[1])
               or deed[3] == len(self._sent[deed[1]][deed[2]]) - 1]
        done = []
        for deed in due:
            if self._is_new(deed):
                self.do_deed(deed)
                done.append(deed)
        return done

    def calm_down(self):
        """Deliver in rounds all that tells something new, and return the deeds done."""
        done = []
        found = self._calm_round()
        while found:
            done.extend(found)
            found = self._calm_round()
        return tuple(done)

    def change_order(self, order):
        """Put a new order in the place of the old one; its state 0 stands for the state that is reached."""
        if not self.settled_now():
            raise NotSettled()
        need = need_of(order)
        left = self.left_now
        if left is not None and need > left:
            raise NotEnough(need, left)
        source = self._disks[self.net.source]
        spent = spent_by(source)
        if self._all_paths is not None:
            spent = tuple(sorted(spent + tuple([self._numbers[frame] for frame in sender_of(source)[0]])))
        disks = [changed_disk(self.net, node, disk, spent) for node, disk in enumerate(self._disks)]
        self._disks = tuple(disks)
        self._take_order(order)

    def snapshot(self):
        """Return all that can change about the keeper, as plain data behind the order."""
        return self.order, self._disks, self._sent, self._read, self._asleep

    def return_to(self, snapshot):
        """Let all be as it was when a keeper of the same net returned a snapshot."""
        order, self._disks, self._sent, self._read, self._asleep = snapshot
        self._take_order(order)


def keeper_text(keeper):
    """Return the text of a keeper."""
    order, disks, sent, read, asleep = keeper.snapshot()
    net = keeper.net
    return data_text(("keeper", order.n, order.edges, net.nodes, net.source, net.sink, net.links,
                      disks, sent, read, asleep))


def read_keeper(text):
    """Return the keeper of a text."""
    _, n, edges, nodes, source, sink, links, disks, sent, read, asleep = read_data(text)
    order = Order(n, edges)
    keeper = Keeper(order, Net(nodes, source, sink, links))
    keeper.return_to((order, disks, sent, read, asleep))
    return keeper


def keeper_twin(keeper):
    """Return another keeper in the same standing."""
    twin = Keeper(keeper.order, keeper.net)
    twin.return_to(keeper.snapshot())
    return twin
