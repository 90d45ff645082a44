"""What a value that was handed in is, and how it is kept."""


def is_integer(value):
    """Whether any value is an int that is not a bool."""
    return isinstance(value, int) and not isinstance(value, bool)


def is_within(value, least, most):
    """Whether any value is an integer from least to most."""
    return is_integer(value) and least <= value <= most


def is_list(value):
    """Whether any value is a list, or a tuple in its place."""
    return isinstance(value, (list, tuple))


def wrong_number(numbers, many, modulus):
    """The index of the first of a list that is no number modulo M, or its size if that is not many; None if none."""
    for index, number in enumerate(numbers):
        if not is_within(number, 0, modulus - 1):
            return index
    if len(numbers) != many:
        return len(numbers)
    return None


def wrong_row(rows, many, width, modulus):
    """The index of the first of a list that is no list of width numbers, or its size if that is not many, or None."""
    for index, row in enumerate(rows):
        if not is_list(row) or wrong_number(row, width, modulus) is not None:
            return index
    if len(rows) != many:
        return len(rows)
    return None


def is_symbol(value, width, modulus):
    """Whether any value is a tuple of width numbers modulo M."""
    return isinstance(value, tuple) and wrong_number(value, width, modulus) is None


def wrong_symbol(block, width, modulus):
    """The index of the first of a list that is no tuple of width numbers modulo M; None if none."""
    # All that is_symbol asks, written out: blocks are long.
    for index, symbol in enumerate(block):
        if not isinstance(symbol, tuple) or len(symbol) != width:
            return index
        for number in symbol:
            if not isinstance(number, int) or number is True or number is False or not 0 <= number < modulus:
                return index
    return None


def is_row(value, size):
    """Whether any value is a tuple of so many integers."""
    return isinstance(value, tuple) and len(value) == size and all([is_integer(number) for number in value])


def is_matrix(value, height, width):
    """Whether any value is a tuple of so many rows of so many integers; height may be 0."""
    return isinstance(value, tuple) and len(value) == height and all([is_row(row, width) for row in value])


def is_same_matrix(value, rows, width):
    """Whether any value is the tuple of these rows, number by number."""
    # A bool equals the integer 0 or 1 but is none.
    return is_matrix(value, len(rows), width) and value == rows


def frozen(value):
    """Any value as a result keeps it: lists as tuples, at every depth."""
    if is_list(value):
        return tuple([frozen(item) for item in value])
    if isinstance(value, dict):
        return {key: frozen(value[key]) for key in value}
    return value
