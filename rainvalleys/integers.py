"""What the document calls an integer: True and False are none."""


def is_whole(value):
    """Whether the value is an integer."""
    return isinstance(value, int) and not isinstance(value, bool)


def is_whole_within(value, least, greatest):
    """Whether the value is an integer from the least to the greatest one."""
    return is_whole(value) and least <= value <= greatest


def first_outside(values, least, greatest):
    """The index of the first item that is not such an integer, or None."""
    for index, value in enumerate(values):
        if not is_whole_within(value, least, greatest):
            return index
    return None
