"""The errors of the package; each stores its objects under the names of its arguments."""


class CacheError(Exception):
    """The base class of all errors of the package."""


class InvalidKeys(CacheError):
    def __init__(self, given):
        self.given = given


class InvalidName(CacheError):
    def __init__(self, given):
        self.given = given


class InvalidValue(CacheError):
    def __init__(self, given):
        self.given = given


class InvalidNeed(CacheError):
    def __init__(self, given):
        self.given = given


class InvalidAllowance(CacheError):
    def __init__(self, given):
        self.given = given


class InvalidHistory(CacheError):
    def __init__(self, index):
        self.index = index


class InvalidDeed(CacheError):
    def __init__(self, given):
        self.given = given


class UnknownNode(CacheError):
    def __init__(self, node):
        self.node = node


class UnknownKey(CacheError):
    def __init__(self, word):
        self.word = word


class UnknownQuestion(CacheError):
    def __init__(self, question):
        self.question = question


class NoCopy(CacheError):
    def __init__(self, word):
        self.word = word


class NoMessage(CacheError):
    def __init__(self, sender, receiver):
        self.sender = sender
        self.receiver = receiver


class NameTaken(CacheError):
    def __init__(self, node):
        self.node = node


class NotReady(CacheError):
    def __init__(self, node):
        self.node = node


class HasChildren(CacheError):
    def __init__(self, node):
        self.node = node


class NotCrashed(CacheError):
    def __init__(self, node):
        self.node = node


class Busy(CacheError):
    def __init__(self, node):
        self.node = node


class TooLow(CacheError):
    def __init__(self, least):
        self.least = least


class LimitExceeded(CacheError):
    def __init__(self, limit):
        self.limit = limit


class InvalidOrder(CacheError):
    def __init__(self, given):
        self.given = given


class InvalidCut(CacheError):
    def __init__(self, given):
        self.given = given


class InvalidMoment(CacheError):
    def __init__(self, given):
        self.given = given


class InvalidOperand(CacheError):
    def __init__(self, given):
        self.given = given


class InvalidToken(CacheError):
    def __init__(self, given):
        self.given = given


class Overtaken(CacheError):
    def __init__(self, question):
        self.question = question


class NoAnswer(CacheError):
    def __init__(self, question):
        self.question = question


class InvalidLog(CacheError):
    def __init__(self, given):
        self.given = given


class NothingWaits(CacheError):
    def __init__(self, word):
        self.word = word


class Unsettled(CacheError):
    def __init__(self, node):
        self.node = node


class InvalidCondition(CacheError):
    def __init__(self, given):
        self.given = given


class InvalidMost(CacheError):
    def __init__(self, given):
        self.given = given


class InvalidTree(CacheError):
    def __init__(self, given):
        self.given = given


class InvalidTarget(CacheError):
    def __init__(self, given):
        self.given = given


class InvalidSequence(CacheError):
    def __init__(self, given):
        self.given = given


class InvalidScript(CacheError):
    def __init__(self, line):
        self.line = line


class InvalidUser(CacheError):
    def __init__(self, given):
        self.given = given


class NetTaken(CacheError):
    def __init__(self, net):
        self.net = net


class UnknownNet(CacheError):
    def __init__(self, net):
        self.net = net


class NothingToUndo(CacheError):
    def __init__(self, net):
        self.net = net


class NotYours(CacheError):
    def __init__(self, user):
        self.user = user


class InvalidText(CacheError):
    def __init__(self, given):
        self.given = given


class InvalidCommand(CacheError):
    def __init__(self, given):
        self.given = given
