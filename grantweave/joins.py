"""The four joins, the loosest of several, and what fits through them."""

from grantweave.errors import NoJoin
from grantweave.licences import least_beyond
from grantweave.words import mask_of


def needed_deeds(closeness):
    return mask_of(list(range(closeness + 1)))


class Join:
    def need(self):
        return needed_deeds(self.closeness())


class Called(Join):
    def word(self):
        return "called"

    def closeness(self):
        return 0


class Beside(Join):
    def word(self):
        return "beside"

    def closeness(self):
        return 1


class Joined(Join):
    def word(self):
        return "joined"

    def closeness(self):
        return 2


class Changed(Join):
    def word(self):
        return "changed"

    def closeness(self):
        return 3


def all_joins():
    # The place of each is its closeness.
    return [Called(), Beside(), Joined(), Changed()]


def join_words():
    return [join.word() for join in all_joins()]


def join_of(word):
    for join in all_joins():
        if join.word() == word:
            return join
    raise NoJoin(word)


def loosest(joins):
    least = Changed()
    for join in joins:
        if join.closeness() < least.closeness():
            least = join
    return least


def deed_fault(licence, closeness):
    deed = least_beyond(needed_deeds(closeness), licence.lets)
    return None if deed is None else ("deed", deed)


def binds(licence, closeness):
    return licence.reach <= closeness


def fit_fault(licence, closeness, other):
    fault = deed_fault(licence, closeness)
    if fault is None and binds(licence, closeness):
        return other.fault(licence)
    return fault


def fits(licence, closeness, other):
    return fit_fault(licence, closeness, other) is None
