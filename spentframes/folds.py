"""Runs of a compiled net told as runs of a compiled pair, and back."""

from spentframes.flows import check_paths


def _other_way(hop):
    """Return a hop on the other way of its link."""
    return hop[0], 1 - hop[1], hop[2]


def fold_run(net, paths, run):
    """Return the run of the pair for a run of the compiled net."""
    folded = {}
    for at, path in enumerate(check_paths(net, paths)):
        folded[path[-1]] = ("deliver", 0, 0, at)
        folded[_other_way(path[0])] = ("deliver", 0, 1, at)
    deeds = []
    for deed in run:
        if deed[0] == "rise":
            deeds.append(tuple(deed))
        elif tuple(deed[1:]) in folded:
            deeds.append(folded[tuple(deed[1:])])
    return tuple(deeds)


def unfold_run(net, paths, run):
    """Return the run of the compiled net for a run of the pair."""
    right = check_paths(net, paths)
    deeds = []
    for deed in run:
        if deed[0] == "rise":
            deeds.append(tuple(deed))
            continue
        _, _, way, at = deed
        hops = right[at] if way == 0 else [_other_way(hop) for hop in right[at][::-1]]
        deeds.extend([("deliver",) + hop for hop in hops])
    return tuple(deeds)


def rounds_due(paths, m):
    """Return the number of rounds behind which a compiled net of m frames is settled, whatever run came before."""
    return 2 * m * max([len(path) for path in paths[:m]], default=0)
