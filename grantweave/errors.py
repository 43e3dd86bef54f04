"""The refusals, each a class of its own that holds what it is about."""


class GrantError(ValueError):
    pass


class NoWord(GrantError):
    def __init__(self, found):
        GrantError.__init__(self, "this is no word")
        self.found = found


class NoKey(GrantError):
    def __init__(self, found):
        GrantError.__init__(self, "this is no key, or none that is known here")
        self.found = found


class NoJoin(GrantError):
    def __init__(self, found):
        GrantError.__init__(self, "this is no join's word")
        self.found = found


class NoPart(GrantError):
    def __init__(self, found):
        GrantError.__init__(self, "this is no name of such a part")
        self.found = found


class NoDay(GrantError):
    def __init__(self, found):
        GrantError.__init__(self, "this is no day, or none that can stand here")
        self.found = found


class NoPrice(GrantError):
    def __init__(self, found):
        GrantError.__init__(self, "this is no price, or lacks one")
        self.found = found


class NoSteps(GrantError):
    def __init__(self, found):
        GrantError.__init__(self, "these are no steps")
        self.found = found


class NoChoice(GrantError):
    def __init__(self, found):
        GrantError.__init__(self, "this is no choice that fits")
        self.found = found


class NoLine(GrantError):
    def __init__(self, found):
        GrantError.__init__(self, "this is no line that a desk takes")
        self.found = found


class BadTerms(GrantError):
    def __init__(self, found):
        GrantError.__init__(self, "these are no terms")
        self.found = found


class BadAsks(GrantError):
    def __init__(self, found):
        GrantError.__init__(self, "these are no duties that a licence can ask")
        self.found = found


class BadOffers(GrantError):
    def __init__(self, found):
        GrantError.__init__(self, "these are no offers")
        self.found = found


class BadBeneath(GrantError):
    def __init__(self, found):
        GrantError.__init__(self, "these are no parts beneath another one")
        self.found = found


class Doubled(GrantError):
    def __init__(self, name):
        GrantError.__init__(self, "this stands ahead already")
        self.name = name


class Stopped(GrantError):
    def __init__(self, name):
        GrantError.__init__(self, "this part stops it")
        self.name = name


class TooMany(GrantError):
    def __init__(self, many):
        GrantError.__init__(self, "there are too many")
        self.many = many


class TooDeep(GrantError):
    def __init__(self, many):
        GrantError.__init__(self, "they are too deep")
        self.many = many


class BadText(GrantError):
    def __init__(self, line):
        GrantError.__init__(self, "this row has not its form")
        self.line = line
