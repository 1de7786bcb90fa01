"""Clocks and the records of intervals (points [4] and [5])."""


def zero_clock(machines):
    """The clock with all counts 0."""
    return (0,) * machines


def merged(one, other):
    """The least clock that covers all that either clock covers."""
    return tuple([max(first, second) for first, second in zip(one, other)])


def with_count(clock, machine, count):
    """The clock with another count of one machine."""
    return tuple([count if at == machine else old for at, old in enumerate(clock)])


def covers(clock, machine, number):
    """True if the clock covers the interval with this number of the machine."""
    return clock[machine] >= number


def is_within(one, other):
    """True if no count of the first clock is greater than that of the second one."""
    return all([first <= second for first, second in zip(one, other)])


def each_once(words):
    """The tuple of the words, each once, ascending."""
    return tuple(sorted(set(words)))


def make_record(machine, number, clock, loads, stores):
    """The record of an interval that loaded and stored these words."""
    return machine, number, clock, each_once(loads), each_once(stores)


def is_same(one, other):
    """True if both records are of the same interval."""
    return one[0] == other[0] and one[1] == other[1]


def is_covered(record, clock):
    """True if the clock covers the interval of the record."""
    return covers(clock, record[0], record[1])


def is_before(one, other):
    """True if the interval of the first record happens before that of the second one."""
    return is_covered(one, other[2]) and not is_same(one, other)


def are_unordered(one, other):
    """True if the records are of different intervals and neither happens before the other."""
    if one[0] == other[0]:
        return False
    return not is_before(one, other) and not is_before(other, one)


def ascending(records):
    """The list of the records by machine and number."""
    return sorted(records, key=lambda record: (record[0], record[1]))


def not_covered(records, clock):
    """The list of the records that the clock does not cover, ascending."""
    return ascending([record for record in records if not is_covered(record, clock)])


def covered(records, clock):
    """The list of the records that the clock covers, ascending."""
    return ascending([record for record in records if is_covered(record, clock)])
