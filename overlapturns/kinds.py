"""What kind of value something is, as the whole package understands it."""


def is_integer(value):
    """Tell whether the value is an integer; True and False are none."""
    return isinstance(value, int) and not isinstance(value, bool)


def is_integer_within(value, least, most):
    """Tell whether the value is an integer from least to most, both included."""
    return is_integer(value) and least <= value <= most
