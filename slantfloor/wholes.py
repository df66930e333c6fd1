"""What a whole number is [2]."""


def is_whole(thing):
    # To Python the truths are ints; here they are none.
    return isinstance(thing, int) and not isinstance(thing, bool)
