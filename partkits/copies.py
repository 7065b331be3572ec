"""Things of tuples, made anew, for what is told is the asker's own, and what is kept the keeper's (point 2)."""


def copied(thing):
    """The same thing, each tuple in it made anew."""
    if not isinstance(thing, tuple):
        return thing
    return tuple([copied(inner) for inner in thing])
