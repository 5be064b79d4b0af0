"""How objects keep what they are given."""


def kept(value):
    """The value, with tuples in the place of lists."""
    if isinstance(value, (list, tuple)):
        return tuple([kept(item) for item in value])
    return value
