"""Terms of one's own for a work, or rows of forced picks that show that there are none."""

from grantweave.errors import NoKey, NoPart
from grantweave.joins import binds, deed_fault
from grantweave.licences import GREATEST_REACH, Terms
from grantweave.whole import need_known, offered_parts, stopping_rows
from grantweave.words import is_key, is_word, least_bit
from grantweave.works import has_offer

ALL_DEEDS = 31


def pick_fault(licence, closeness):
    fault = deed_fault(licence, closeness)
    if fault is None and licence.wants_same() and binds(licence, closeness):
        return ("same",)
    return fault


def pick_faults(book, part, closeness):
    return [(offer, pick_fault(book.licence(offer), closeness)) for offer in part.offers]


def usable(book, work):
    need_known(book, work)
    found = {}
    for part, closeness in offered_parts(work):
        found[part.name] = [offer for offer, fault in pick_faults(book, part, closeness) if fault is None]
    return found


def laid_terms(licence, closeness):
    # Terms that ask nothing stand for a pick that doesn't bind: they clash with none, and add nothing to others.
    return licence if binds(licence, closeness) else Terms(ALL_DEEDS, 0, 0, GREATEST_REACH)


def terms_clash(one, other):
    return least_bit((one.strings & other.bars) | (one.bars & other.strings))


def need_pick(work, pick):
    named = [part for part, closeness in offered_parts(work) if part.name == pick[0]]
    if not named:
        raise NoPart(pick[0])
    if not has_offer(named[0], pick[1]):
        raise NoKey(pick[1])


def laid_by(book, work, pick):
    return laid_terms(book.licence(pick[1]), work.closeness_of(pick[0]))


def clash_at(book, work, one, other):
    need_known(book, work)
    need_pick(work, one)
    need_pick(work, other)
    if one[0] == other[0]:
        return None
    return terms_clash(laid_by(book, work, one), laid_by(book, work, other))


def usable_picks(book, work):
    laid = {}
    for name, offers in usable(book, work).items():
        for offer in offers:
            laid[(name, offer)] = laid_by(book, work, (name, offer))
    return laid


def do_clash(laid, one, other):
    return one[0] != other[0] and terms_clash(laid[one], laid[other]) is not None


def picks_of(laid, name):
    return [pick for pick in laid if pick[0] == name]


def is_forced(laid, pick, ahead):
    return all([other == pick or do_clash(laid, other, ahead) for other in picks_of(laid, pick[0])])


def forced_by_each(laid):
    forced = {}
    for ahead in laid:
        forced[ahead] = [pick for pick in laid if is_forced(laid, pick, ahead)]
    return forced


def rows_from(forced, first):
    rows = [[first]]
    seen = {first: True}
    place = 0
    while place < len(rows):
        row = rows[place]
        for pick in forced[row[-1]]:
            if pick not in seen:
                seen[pick] = True
                rows.append(row + [pick])
        place = place + 1
    return rows


def chain_from(laid, forced, first):
    for row in rows_from(forced, first):
        if do_clash(laid, row[-1], first):
            return row
    return None


def forced_clash(laid, forced):
    chains = {}
    for pick in laid:
        chains[pick] = chain_from(laid, forced, pick)
    for pick in laid:
        mine = [chains[other] for other in picks_of(laid, pick[0])]
        if all([chain is not None for chain in mine]):
            return ("clash", pick[0], mine)
    return None


def clashes_with_any(laid, one, picks):
    return any([do_clash(laid, one, other) for other in picks])


def has_clash(laid, picks):
    return any([clashes_with_any(laid, one, picks) for one in picks])


def free_choice(laid, forced):
    choice = {}
    for pick in laid:
        if pick[0] not in choice:
            # With a pick all that it forces is taken; so what is left over clashes with nothing that is taken.
            together = [row[-1] for row in rows_from(forced, pick)]
            if not has_clash(laid, together):
                choice.update(dict(together))
    return choice


def terms_over_all(laid):
    lets = ALL_DEEDS
    strings = 0
    bars = 0
    for terms in laid:
        lets = lets & terms.lets
        strings = strings | terms.strings
        bars = bars | terms.bars
    return Terms(lets, strings, bars, min([terms.reach for terms in laid], default=GREATEST_REACH))


def own_terms(book, work):
    need_known(book, work)
    stopping = stopping_rows(work, lambda part, closeness: pick_faults(book, part, closeness))
    if stopping:
        return ("stopped", stopping[0][0], stopping[0][1])
    laid = usable_picks(book, work)
    forced = forced_by_each(laid)
    clash = forced_clash(laid, forced)
    if clash is not None:
        return clash
    choice = free_choice(laid, forced)
    return ("own", choice, terms_over_all([laid[pick] for pick in choice.items()]))


def is_pick(laid, thing):
    if not isinstance(thing, tuple) or len(thing) != 2:
        return False
    # A truth is equal to a number, and a list can't be looked up at all.
    return is_word(thing[0]) and is_key(thing[1]) and thing in laid


def chain_holds(book, work, chain):
    laid = usable_picks(book, work)
    if not isinstance(chain, list) or not chain or not all([is_pick(laid, thing) for thing in chain]):
        return False
    if not all([is_forced(laid, pick, ahead) for ahead, pick in zip(chain[:-1], chain[1:])]):
        return False
    return do_clash(laid, chain[-1], chain[0])
