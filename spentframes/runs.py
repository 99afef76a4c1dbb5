"""Runs and loops: deeds done one after another, walked along and judged."""

from spentframes.datatext import data_text
from spentframes.errors import BadRun, NoDeed
from spentframes.shapes import read_shaped
from spentframes.wholes import is_sequence, is_whole

_RUN_SHAPE = (
    "row", ("either",
            ("parts", ("the", "deliver"), ("whole", 0, 11), ("whole", 0, 1), ("whole", 0, 5)),
            ("parts", ("the", "rise"), ("whole", 0, 23))))


def _behind(system, standing, deed):
    """Return the standing behind a deed, or None if it cannot be done."""
    try:
        return system.after(standing, deed)
    except NoDeed:
        return None


def walk(system, run):
    """Yield the first standing, then the one behind each deed of a run."""
    standing = system.first()
    yield standing
    for place, deed in enumerate(run):
        standing = _behind(system, standing, deed)
        if standing is None:
            raise BadRun(place)
        yield standing


def end_of(system, run):
    """Return the last standing of a run."""
    return list(walk(system, run))[-1]


def lean_run(system, run):
    """Return a run without the deeds that leave the standing as it was."""
    standings = list(walk(system, run))
    return tuple([tuple(deed) for at, deed in enumerate(run) if standings[at] != standings[at + 1]])


def standings_along(system, standing, deeds):
    """Return a standing and the one behind each deed, or None if the deeds are no sequence or one cannot be done."""
    if not is_sequence(deeds):
        return None
    standings = [standing]
    for deed in deeds:
        standing = _behind(system, standing, deed)
        if standing is None:
            return None
        standings.append(standing)
    return standings


def shows_above(system, standing):
    """Tell whether the sink shows a state that is not at most the source's."""
    return not system.order.at_most(system.shown(standing), standing[2])


def turns_back(system, before, standing):
    """Tell whether the sink shows neither the state that it showed before nor a greater one."""
    return not system.order.at_most(system.shown(before), system.shown(standing))


def run_fault(system, run):
    """Return None if a thing is a run in which the sink shows nothing wrong, else (what, place)."""
    if not is_sequence(run):
        return "deed", 0
    before = standing = system.first()
    for place in range(len(run) + 1):
        if shows_above(system, standing):
            return "above", place
        if turns_back(system, before, standing):
            return "back", place
        if place < len(run):
            before = standing
            standing = _behind(system, before, run[place])
            if standing is None:
                return "deed", place
    return None


def _is_fair(system, standings, loop):
    """Tell whether all that is sent in the standings of a loop is delivered by one of its deeds."""
    delivered = {tuple(deed[1:]) for deed in loop if deed[0] == "deliver"}
    for standing in standings:
        for triple in system.sending(standing):
            if triple not in delivered:
                return False
    return True


def loop_along(system, run, loop):
    """Return (None, standings of a loop behind a run), or (word, None) if it is no such loop."""
    behind = standings_along(system, system.first(), run)
    if behind is None:
        return "run", None
    standings = standings_along(system, behind[-1], loop)
    if standings is None:
        return "deed", None
    if standings[-1] != standings[0]:
        return "open", None
    return None, standings


def always_shows(system, standings):
    """Tell whether the sink shows the source's state in all of these standings."""
    return all([system.shown(standing) == standing[2] for standing in standings])


def loop_fault(system, run, loop):
    """Return None if a loop behind a run is fair and stuck, else the word of what it is not."""
    word, standings = loop_along(system, run, loop)
    if word is not None:
        return word
    if not _is_fair(system, standings, loop):
        return "unfair"
    return "told" if always_shows(system, standings) else None


def _is_triple(thing):
    """Tell whether a thing is a sequence of three whole numbers."""
    return is_sequence(thing) and len(thing) == 3 and all([is_whole(number) for number in thing])


def round_from(system, standing, held=()):
    """Return (deeds, standing) of a round: each frame that was sent before and is not held is delivered once."""
    kept_back = {tuple(triple) for triple in held if _is_triple(triple)}
    deeds = []
    behind = standing
    for deed in system.readings_from(standing):
        if deed[1:] not in kept_back:
            deeds.append(deed)
            behind = system.moved(behind, deed)
    return tuple(deeds), behind


def _reached_node(net, deed):
    """Return the node that a deed reaches, None for what no deed of the net can look like."""
    if not is_sequence(deed):
        return None
    if len(deed) == 2 and deed[0] == "rise":
        return net.source
    if len(deed) != 4 or deed[0] != "deliver":
        return None
    if not is_whole(deed[1], 0, len(net) - 1) or not is_whole(deed[2], 0, 1):
        return None
    return net.receiver(deed[1], deed[2])


def view_of(net, run, nodes):
    """Return the deeds of a run that reach one of the nodes, in their order."""
    looked_at = [node for node in nodes if is_whole(node)]
    return tuple([tuple(deed) for deed in run if _reached_node(net, deed) in looked_at])


def run_text(run):
    """Return the text of a run."""
    return data_text(tuple(run))


def read_run(text):
    """Return the run of a text."""
    return read_shaped(text, _RUN_SHAPE)
