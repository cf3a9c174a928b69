"""Sets of bytes: integers of 256 bits, bit n for byte n."""

EVERY_BYTE = (1 << 256) - 1


def set_of(numbers):
    """The set of the bytes that are told, in any order, perhaps more than once."""
    made = 0
    for number in numbers:
        made |= 1 << number
    return made


def range_set(first, last):
    """The set of the bytes from first to last, both in it."""
    return ((1 << (last + 1)) - 1) >> first << first


def has(some, byte):
    """Whether a byte is in a set."""
    return (some >> byte) & 1 == 1


def without(some):
    """The set of all bytes that are not in a set."""
    return EVERY_BYTE ^ some


def ranges_of(some):
    """The ascending list of (first, last) for each run of bytes in a set, none touching the next."""
    ranges = []
    first = None
    # Byte 256 is in no set, so it ends a run that goes up to 255.
    for byte in range(257):
        if has(some, byte):
            if first is None:
                first = byte
        elif first is not None:
            ranges.append((first, byte - 1))
            first = None
    return ranges
