"""The refusals of the program, each a class of its own."""


class BridgeError(ValueError):
    pass


class NoTree(BridgeError):
    pass


class NoWay(BridgeError):
    pass


class NoStand(BridgeError):
    pass


class Twice(BridgeError):
    pass


class Missing(BridgeError):
    pass


class NoRoom(BridgeError):
    pass


class NoKnot(BridgeError):
    pass


class NoKey(BridgeError):
    pass


class NoOrder(BridgeError):
    pass


class NoRow(BridgeError):
    pass


class NoText(BridgeError):
    def __init__(self, line):
        BridgeError.__init__(self, f"no text of a stand, as line {line} shows")
        self.line = line
