"""Paths of a net from which a link is taken out."""

from spentframes.errors import NoLink
from spentframes.flows import check_paths, more_paths
from spentframes.wholes import is_whole


def paths_without(net, paths, link):
    """Return those of the right paths that do not use a link, as right paths of the net without it."""
    right = check_paths(net, paths)
    if not is_whole(link, 0, len(net) - 1):
        raise NoLink(link)
    kept = [path for path in right if link not in [hop[0] for hop in path]]
    return tuple([tuple([(on - 1 if on > link else on, way, frame) for on, way, frame in path]) for path in kept])


def healed_paths(net, paths, link, most):
    """Return right paths of the net without a link: those that are left if they are enough, else the greatest ones."""
    left = paths_without(net, paths, link)
    return more_paths(net.without_link(link), left, most)
