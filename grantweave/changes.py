"""Works that are changed by making another work, and which licences a change loses and gains."""

from grantweave.errors import BadBeneath, BadOffers, Doubled, NoPart
from grantweave.joins import join_of
from grantweave.whole import need_known, stops, told_keys
from grantweave.works import Part, are_offers, depth_of, need_few_beneath, need_few_parts, need_not_deep, with_part


def with_beneath(work, upper, beneath):
    return with_part(work, upper.name, Part(upper.name, upper.offers, beneath))


def need_unlike_names(work, part):
    names = work.all_names()
    for name in part.all_names():
        if name in names:
            raise Doubled(name)


def put_beneath(work, under, join, part):
    # Which of two refusals is given hangs on the order of these rows.
    upper = work.at(under)
    if not isinstance(part, Part):
        raise BadBeneath(part)
    # Asked for its refusal alone.
    join_of(join)
    need_few_beneath(len(upper.beneath) + 1)
    need_unlike_names(work, part)
    need_few_parts(len(work.all_names()) + len(part.all_names()))
    need_not_deep(1 + len(work.road(under)) + depth_of(part))
    return with_beneath(work, upper, upper.beneath + ((join, part),))


def upper_of(work, name):
    road = work.road(name)
    if not road:
        raise NoPart(name)
    names = [work.name] + [lower for word, lower in road]
    return work.at(names[-2])


def taken_out(work, name):
    upper = upper_of(work, name)
    return with_beneath(work, upper, [(word, part) for word, part in upper.beneath if part.name != name])


def rejoined(work, name, join):
    upper = upper_of(work, name)
    # Asked for its refusal alone.
    join_of(join)
    return with_beneath(work, upper, [(join if part.name == name else word, part) for word, part in upper.beneath])


def reoffered(work, name, offers):
    part = work.at(name)
    # None is no list here, though it stands for one where a part is made.
    if not are_offers(offers):
        raise BadOffers(offers)
    return with_part(work, part.name, Part(part.name, offers, part.beneath))


def lost_keys(book, before, after):
    rows = []
    for key in told_keys(book, before):
        stopping = stops(book, after, key)
        if stopping:
            rows.append((key, stopping[0][0]))
    return rows


def compared_works(book, before, after):
    need_known(book, before)
    need_known(book, after)
    return (lost_keys(book, before, after), lost_keys(book, after, before))
