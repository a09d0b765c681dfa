"""What is looked at, with one thing otherwise."""

import itertools

# Nothing of these is a paper, a tuple of answers or a list of places.
ANYTHING = [None, True, False, 0, 1, -1, 7, "", "marks", "bar", "follows", [], (), {}, [[]], ((),), ([], []), [(), ()],
            (None, None), {0: 1}, ("marks",), ("marks", [], [], []), ("bar", [], 2, 3), [None], (True,), ([[]], {}),
            [(1, 1, True)], [(1, 1)], [[1, 1, True]], ([0], [([0], 1)], 1), ((((((((),),),),),),),)]


def is_just(thing, told):
    """Whether it is just as told, all through: numbers no truths, a tuple let be in a list's place alone."""
    if type(told) is list:
        return type(thing) in (list, tuple) and len(thing) == len(told) and all(map(is_just, thing, told))
    if type(thing) is not type(told):
        return False
    if type(told) is tuple:
        return len(thing) == len(told) and all(map(is_just, thing, told))
    return thing == told


def as_tuples(thing):
    """The thing with a tuple in the place of each list."""
    if type(thing) in (list, tuple):
        return tuple(as_tuples(part) for part in thing)
    return thing


def variants(thing, parts=6):
    """The thing with one thing otherwise, in many ways; of long lists some parts alone. None of these is the thing."""
    for other in otherwise(thing, parts):
        if not is_just(other, thing):
            yield other


def otherwise(thing, parts):
    yield from (None, "", [], (), {}, [thing], (thing,), str(thing)[:50])
    if type(thing) is bool:
        yield from (not thing, int(thing), 1 - int(thing))
    elif type(thing) is int:
        yield from (thing + 1, thing - 1, -thing, 2 * thing, True, False, 10 ** 300)
    elif type(thing) is str:
        yield from (thing.upper(), thing + " ", thing[:-1], 0, True)
    elif type(thing) in (list, tuple):
        yield from otherwise_in_row(thing, parts)


def otherwise_in_row(thing, parts):
    if type(thing) is tuple:
        yield list(thing)
    yield {at: part for at, part in enumerate(thing)}
    yield thing + type(thing)([None])
    yield thing[::-1]
    ats = sorted(set(itertools.islice(range(len(thing)), parts)) | {len(thing) // 2, len(thing) - 1})
    for at in ats:
        if not 0 <= at < len(thing):
            continue
        yield thing[:at] + thing[at + 1:]
        yield thing[:at]
        yield thing[:at] + thing[at:at + 1] + thing[at:]
        yield thing[:at] + type(thing)([0]) + thing[at:]
        yield thing[:at] + thing[at + 1:at + 2] + thing[at:at + 1] + thing[at + 2:]
        for part in otherwise(thing[at], parts):
            yield thing[:at] + type(thing)([part]) + thing[at + 1:]
