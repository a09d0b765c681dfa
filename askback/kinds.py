"""Of what kind a thing is that may be anything, and copies of it."""


def is_whole(thing):
    """Whether it is a whole number: an int that is no truth."""
    return isinstance(thing, int) and not isinstance(thing, bool)


def is_whole_from(thing, least):
    """Whether it is a whole number, the least one or more."""
    return is_whole(thing) and thing >= least


def is_word(thing):
    """Whether it is a word of one to twelve small letters."""
    if not isinstance(thing, str) or not 1 <= len(thing) <= 12:
        return False
    return all(["a" <= sign <= "z" for sign in thing])


def is_row(thing):
    """Whether it is a list, or a tuple in the place of one."""
    return isinstance(thing, (list, tuple))


def are_whole(thing, many):
    """Whether it is a list of so many whole numbers."""
    return is_row(thing) and len(thing) == many and all([is_whole(part) for part in thing])


def copy_of(thing):
    """The thing itself, or, of lists, tuples and dicts, one of its own all through."""
    if isinstance(thing, list):
        return [copy_of(part) for part in thing]
    if isinstance(thing, tuple):
        return tuple([copy_of(part) for part in thing])
    if isinstance(thing, dict):
        return {key: copy_of(thing[key]) for key in thing}
    return thing


def is_same(thing, told):
    """Whether it is just as told, of whole numbers, truths, lists and tuples: a tuple may stand in a list's place."""
    if isinstance(told, bool):
        return isinstance(thing, bool) and thing == told
    if is_whole(told):
        return is_whole(thing) and thing == told
    if isinstance(told, tuple) and not isinstance(thing, tuple):
        return False
    if not is_row(thing) or len(thing) != len(told):
        return False
    return all([is_same(part, part_told) for part, part_told in zip(thing, told)])
