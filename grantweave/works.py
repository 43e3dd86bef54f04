"""Works: trees of parts, their names in reading order, their rows of joins and their closeness."""

from grantweave.errors import BadBeneath, BadOffers, Doubled, NoPart, NoWord, TooDeep, TooMany
from grantweave.joins import join_of, loosest
from grantweave.words import is_key, is_word

MOST_OFFERS = 2
MOST_BENEATH = 6
MOST_PARTS = 30
MOST_DEEP = 6


def are_offers(thing):
    if not isinstance(thing, (list, tuple)) or len(thing) > MOST_OFFERS:
        return False
    return all([is_key(key) for key in thing]) and len(set(thing)) == len(thing)


def kept_offers(offers):
    if offers is None:
        return ()
    if not are_offers(offers):
        raise BadOffers(offers)
    return tuple(offers)


def need_few_beneath(many):
    if many > MOST_BENEATH:
        raise TooMany(many)


def need_few_parts(many):
    if many > MOST_PARTS:
        raise TooMany(many)


def need_not_deep(deep):
    if deep > MOST_DEEP:
        raise TooDeep(deep)


def is_joined_part(thing):
    return isinstance(thing, tuple) and len(thing) == 2 and isinstance(thing[1], Part)


def kept_beneath(beneath):
    if beneath is None:
        return ()
    if not isinstance(beneath, (list, tuple)) or not all([is_joined_part(thing) for thing in beneath]):
        raise BadBeneath(beneath)
    need_few_beneath(len(beneath))
    for row in beneath:
        # Asked for its refusal alone.
        join_of(row[0])
    return tuple(beneath)


def walked(work):
    rows = [([], work)]
    for word, part in work.beneath:
        for road, deeper in walked(part):
            rows.append(([(word, part.name)] + road, deeper))
    return rows


def depth_of(work):
    return 1 + max([len(road) for road, part in walked(work)])


def need_bounds(work):
    names = []
    for road, part in walked(work):
        if part.name in names:
            raise Doubled(part.name)
        names.append(part.name)
    need_few_parts(len(names))
    need_not_deep(depth_of(work))


def has_offer(part, thing):
    # A tuple with a truth as its number is equal to a key, but is none.
    return is_key(thing) and thing in part.offers


def row_of(work, name):
    for row in walked(work):
        if row[1].name == name:
            return row
    raise NoPart(name)


def closeness_along(road):
    return loosest([join_of(word) for word, name in road]).closeness()


class Part:
    def __init__(self, name, offers=None, beneath=None):
        # Which of two refusals is given hangs on the order of these rows.
        if not is_word(name):
            raise NoWord(name)
        self.name = name
        self.offers = kept_offers(offers)
        self.beneath = kept_beneath(beneath)
        need_bounds(self)

    def all_names(self):
        return [part.name for road, part in walked(self)]

    def at(self, name):
        return row_of(self, name)[1]

    def road(self, name):
        return row_of(self, name)[0]

    def closeness_of(self, name):
        return closeness_along(self.road(name))

    def told(self):
        return (self.name, self.offers, tuple([(word, part.told()) for word, part in self.beneath]))


def with_part(work, name, part):
    if work.name == name:
        return part
    return Part(work.name, work.offers, [(word, with_part(deeper, name, part)) for word, deeper in work.beneath])
