"""What a whole number is: the one helper that all modules share."""


def is_whole(thing):
    """Tell whether a thing is an int and no truth."""
    return isinstance(thing, int) and not isinstance(thing, bool)


def is_from_nought(thing):
    """Tell whether a thing is a whole number from 0 on."""
    return is_whole(thing) and thing >= 0


def are_six_whole(thing):
    """Tell whether a thing is a tuple of six whole numbers."""
    if not isinstance(thing, tuple) or len(thing) != 6:
        return False
    return all([is_whole(part) for part in thing])
