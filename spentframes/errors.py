"""All errors of the program, each directly under FrameError."""


class FrameError(ValueError):
    """The error under which all others stand."""


class BadOrder(FrameError):
    """An order cannot be made."""
    def __init__(self, what, at):
        self.what = what
        self.at = at


class BadMake(FrameError):
    """A made order was asked for with wrong things, or would have too many states."""
    def __init__(self, what, at):
        self.what = what
        self.at = at


class BadData(FrameError):
    """A thing is no data."""
    def __init__(self, path):
        self.path = path


class BadText(FrameError):
    """A string is no text of data."""
    def __init__(self, place):
        self.place = place


class BadShape(FrameError):
    """Data do not fit a shape."""
    def __init__(self, path):
        self.path = path


class BadCount(FrameError):
    """A count is no whole number from 0 to the most."""
    def __init__(self, most):
        self.most = most


class BadRow(FrameError):
    """A thing is no row of frames."""
    def __init__(self, at):
        self.at = at


class BadPlace(FrameError):
    """No row has this place or number."""


class BadFrames(FrameError):
    """A thing is no ascending sequence of frames."""
    def __init__(self, at):
        self.at = at


class BadLengths(FrameError):
    """A thing is no sequence of lengths of rows."""
    def __init__(self, at):
        self.at = at


class BadTaken(FrameError):
    """A thing is no sequence of taken rows."""
    def __init__(self, at):
        self.at = at


class BadNeeds(FrameError):
    """A thing is no sequence of needs of covers."""
    def __init__(self, at):
        self.at = at


class BadNeedTable(FrameError):
    """A table does not hold the needs of an order."""
    def __init__(self, state, what):
        self.state = state
        self.what = what


class UnlikeSizes(FrameError):
    """Two orders have unlike numbers of states."""


class BadCode(FrameError):
    """A code is not right."""
    def __init__(self, word, state, k, cover):
        self.word = word
        self.state = state
        self.k = k
        self.cover = cover


class FewFrames(FrameError):
    """A code is asked to have fewer frames than it has."""
    def __init__(self, least):
        self.least = least


class NotReached(FrameError):
    """A code does not reach a couple."""
    def __init__(self, state, k):
        self.state = state
        self.k = k


class BadCourse(FrameError):
    """A thing is no course from state 0."""
    def __init__(self, at):
        self.at = at


class BadNet(FrameError):
    """A net cannot be made."""
    def __init__(self, what, at):
        self.what = what
        self.at = at


class NoLink(FrameError):
    """A net does not have this link."""
    def __init__(self, link):
        self.link = link


class NoWay(FrameError):
    """A link does not have this way."""
    def __init__(self, way):
        self.way = way


class NoNode(FrameError):
    """A net does not have this node."""
    def __init__(self, node):
        self.node = node


class BadTable(FrameError):
    """A node table cannot be made."""
    def __init__(self, what, seat):
        self.what = what
        self.seat = seat


class NoSeat(FrameError):
    """A node table does not have this seat."""
    def __init__(self, seat):
        self.seat = seat


class BadSystem(FrameError):
    """A system cannot be made."""
    def __init__(self, node, what):
        self.node = node
        self.what = what


class OrderedLink(FrameError):
    """A link is ordered where loose ones are wanted."""
    def __init__(self, link):
        self.link = link


class NoDeed(FrameError):
    """A thing is no deed that can be done here."""
    def __init__(self, deed):
        self.deed = deed


class BadRun(FrameError):
    """A deed of a run cannot be done."""
    def __init__(self, place):
        self.place = place


class BadGraph(FrameError):
    """A thing is no graph."""
    def __init__(self, what, at):
        self.what = what
        self.at = at


class NoTour(FrameError):
    """There is no fair tour here."""


class TooMany(FrameError):
    """There is more to go through than is let."""
    def __init__(self, most):
        self.most = most


class NotAtRest(FrameError):
    """A run does not lead to a standing at rest."""


class BadTargets(FrameError):
    """A thing is no sequence of targets."""
    def __init__(self, at):
        self.at = at


class BadSide(FrameError):
    """A thing is no side of a net."""
    def __init__(self, what):
        self.what = what


class BadPaths(FrameError):
    """A thing is no sequence of right paths."""
    def __init__(self, word, path, hop):
        self.word = word
        self.path = path
        self.hop = hop


class TooManyFrames(FrameError):
    """There are more frames than tables are compiled for."""
    def __init__(self, frames):
        self.frames = frames


class TooFewPaths(FrameError):
    """There are fewer paths than frames."""
    def __init__(self, wanted, given):
        self.wanted = wanted
        self.given = given


class NoRelay(FrameError):
    """A node is no relay."""
    def __init__(self, node):
        self.node = node


class BadGoals(FrameError):
    """A thing is no sequence of goals."""
    def __init__(self, at):
        self.at = at


class BadGoalRows(FrameError):
    """Goal rows are not right."""
    def __init__(self, word, at):
        self.word = word
        self.at = at


class BadGoalSets(FrameError):
    """Goal sets are not right."""
    def __init__(self, word, at):
        self.word = word
        self.at = at


class NotSilent(FrameError):
    """A system is not silent or has no goals."""


class BadPair(FrameError):
    """A table sends more than one frame from a seat."""
    def __init__(self, node, seat):
        self.node = node
        self.seat = seat


class LongTail(FrameError):
    """The tail of a line would be too long."""


class TooFew(FrameError):
    """There are too few frames for an order or its goals."""


class BadWord(FrameError):
    """A thing is no word of frames."""
    def __init__(self, at):
        self.at = at


class BadDigits(FrameError):
    """A thing is no sequence of digits."""
    def __init__(self, at):
        self.at = at


class NotEnough(FrameError):
    """The need is greater than what is left."""
    def __init__(self, need, left):
        self.need = need
        self.left = left


class BadPart(FrameError):
    """A deed does not have this many small steps."""
    def __init__(self, many):
        self.many = many


class NotSettled(FrameError):
    """A keeper is not settled."""


class NoSystem(FrameError):
    """A desk has no system."""
