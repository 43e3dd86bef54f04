"""The least price of loosening joins so that a licence is told, with shares that show that none is less."""

from grantweave.errors import NoPrice
from grantweave.whole import all_at_fault, part_faults, stops
from grantweave.words import is_whole

GREATEST_PRICE = 1000000
LOOSE = 0


def is_price(thing):
    return is_whole(thing) and 0 <= thing <= GREATEST_PRICE


def need_prices(work, prices):
    if not isinstance(prices, dict):
        raise NoPrice(prices)
    for name in work.all_names()[1:]:
        if name not in prices or not is_price(prices[name]):
            raise NoPrice(name)


def faults_at_loosest(book, work, name, key):
    # The top isn't joined to anything, so nothing makes it less close.
    closeness = work.closeness_of(name) if name == work.name else LOOSE
    return part_faults(book, work.at(name), closeness, book.licence(key))


def least_price(part, stopping, prices):
    if part.name in stopping:
        return prices[part.name]
    return min(prices[part.name], least_price_beneath(part, stopping, prices))


def least_price_beneath(part, stopping, prices):
    return sum([least_price(lower, stopping, prices) for word, lower in part.beneath])


def loose_names(part, stopping, prices):
    if part.name in stopping or prices[part.name] < least_price_beneath(part, stopping, prices):
        return [part.name]
    return loose_names_beneath(part, stopping, prices)


def loose_names_beneath(part, stopping, prices):
    names = []
    for word, lower in part.beneath:
        names.extend(loose_names(lower, stopping, prices))
    return names


def share_beneath(part, total, stopping, prices, shares):
    left = total
    for word, lower in part.beneath:
        share = min(left, least_price(lower, stopping, prices))
        if lower.name in stopping:
            # It takes all for itself; what stops the licence beneath it has no share then.
            shares[lower.name] = share
        else:
            share_beneath(lower, share, stopping, prices, shares)
        left = left - share


def shared_out(work, total, stopping, prices):
    shares = {}
    for name in stopping:
        shares[name] = 0
    share_beneath(work, total, stopping, prices, shares)
    return shares


def loosened(book, work, key, prices):
    stopping = [name for name, faults in stops(book, work, key)]
    need_prices(work, prices)
    if not stopping:
        return ("told",)
    for name in stopping:
        faults = faults_at_loosest(book, work, name, key)
        if all_at_fault(faults):
            return ("never", name, faults)
    total = least_price_beneath(work, stopping, prices)
    names = loose_names_beneath(work, stopping, prices)
    return ("loose", total, names, shared_out(work, total, stopping, prices))
