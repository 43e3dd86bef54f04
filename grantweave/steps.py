"""Works that are given on part by part, and what this tells of the work ahead of all steps."""

from grantweave.duties import least_choice
from grantweave.errors import NoSteps
from grantweave.whole import need_key, need_unstopped, stops
from grantweave.works import Part, with_part


def given_on(book, work, name, key):
    part = work.at(name)
    # The offers of the whole work are looked at, though only the part is given on.
    need_key(book, work, key)
    need_unstopped(stops(book, part, key))
    return with_part(work, part.name, Part(part.name, [key]))


def are_steps(thing):
    return isinstance(thing, list) and all([isinstance(step, tuple) and len(step) == 2 for step in thing])


def stepped(book, work, steps):
    if not are_steps(steps):
        raise NoSteps(steps)
    behind = work
    for step in steps:
        behind = given_on(book, behind, step[0], step[1])
    return behind


def whole_choice(book, work, steps, key):
    behind = stepped(book, work, steps)
    need_unstopped(stops(book, behind, key))
    # What is told behind the steps is told ahead of them, too, so this is not refused.
    return least_choice(book, work, key)
