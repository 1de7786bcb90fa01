"""Traces: the clocks, intervals and races of the events that machines have noted (points [39] to [43])."""

from itertools import combinations

from commonage.clocks import merged, with_count, zero_clock


def releases_of(trace):
    """The dict from tuples (lock, number) to the list of the releases with them."""
    found = {}
    for machine, events in enumerate(trace):
        for index, event in enumerate(events):
            if event[0] == "release":
                found.setdefault((event[1], event[2]), []).append((machine, index))
    return found


def barriers_of(events):
    """The dict from the numbers of the barriers to the indexes at which a machine noted them."""
    found = {}
    for index, event in enumerate(events):
        if event[0] == "barrier":
            found.setdefault(event[1], index)
    return found


def last_before_barrier(trace, barriers, number, machine):
    """The list of the last event of each other machine before the barrier, if there is one."""
    found = []
    for other, events in enumerate(trace):
        count = barriers[other].get(number, len(events))
        if other != machine and count > 0:
            found.append((other, count - 1))
    return found


def causes_of(trace):
    """A list with, for each machine, the list of what comes right before each event, besides the one above it."""
    releases = releases_of(trace)
    barriers = [barriers_of(events) for events in trace]
    found = []
    for machine, events in enumerate(trace):
        causes = []
        for event in events:
            if event[0] == "acquire":
                causes.append(releases.get((event[1], event[2] - 1), []))
            elif event[0] == "barrier":
                causes.append(last_before_barrier(trace, barriers, event[1], machine))
            else:
                causes.append([])
        found.append(causes)
    return found


def have_clocks(clocks, events):
    """True if each of the events has its clock."""
    return all([index < len(clocks[machine]) for machine, index in events])


def next_clock(clocks, machine, causes):
    """The clock of the next event of the machine, behind these causes."""
    own = clocks[machine]
    clock = own[-1] if len(own) > 0 else zero_clock(len(clocks))
    for other, index in causes:
        clock = merged(clock, clocks[other][index])
    return with_count(clock, machine, len(own) + 1)


def add_clocks(clocks, machine, causes):
    """Adds the clocks of the events of a machine that can have them now; returns how many they are."""
    added = 0
    while len(clocks[machine]) < len(causes) and have_clocks(clocks, causes[len(clocks[machine])]):
        clock = next_clock(clocks, machine, causes[len(clocks[machine])])
        clocks[machine].append(clock)
        added = added + 1
    return added


def add_clocks_of_all(clocks, causes):
    """Adds clocks for each machine; returns how many they are."""
    added = 0
    for machine, rows in enumerate(causes):
        added = added + add_clocks(clocks, machine, rows)
    return added


def how_many(trace):
    """How many events the trace has."""
    return sum([len(events) for events in trace])


def clocks_of(trace):
    """A list with the list of the clocks of each machine's events, None if the order has a ring."""
    causes = causes_of(trace)
    clocks = [[] for _ in trace]
    missing = how_many(trace)
    while missing > 0:
        added = add_clocks_of_all(clocks, causes)
        if added == 0:
            return None
        missing = missing - added
    return clocks


def comes_before(clocks, one, other):
    """True if the first event comes before the other one."""
    machine, index = one
    return one != other and clocks[other[0]][other[1]][machine] > index


def intervals_of(events):
    """The list of the intervals of a machine's events."""
    intervals = []
    number = 1
    for event in events:
        intervals.append(number)
        if event[0] in ("acquire", "release", "barrier"):
            number = number + 1
    return intervals


def is_touch(event):
    """True for loads and stores."""
    return event[0] in ("load", "store")


def add_touches(found, machine, events):
    """Adds to the dict of touches those of a machine."""
    intervals = intervals_of(events)
    for index, event in enumerate(events):
        if is_touch(event):
            sides = found.setdefault(event[1], {})
            key = (machine, intervals[index])
            stores = event[0] == "store" or (key in sides and sides[key][1])
            sides[key] = (index, stores)


def touches_of(trace):
    """The dict from the words to the dict from (machine, interval) to a touch: its index, and whether any stores."""
    # All touches of an interval have the same past and future on other machines, so that one of them will do.
    found = {}
    for machine, events in enumerate(trace):
        add_touches(found, machine, events)
    return found


def do_race(clocks, one, other):
    """True if two touches of a word, each with its machine and interval, race."""
    (machine, _), (index, stores) = one
    (other_machine, _), (other_index, other_stores) = other
    if machine == other_machine or not (stores or other_stores):
        return False
    first, second = (machine, index), (other_machine, other_index)
    return not comes_before(clocks, first, second) and not comes_before(clocks, second, first)


def races_of(trace):
    """The list of the races of a trace that has clocks."""
    clocks = clocks_of(trace)
    races = []
    for word, touches in touches_of(trace).items():
        # They were found by machine and interval, so that the lesser machine stands first in each pair.
        sides = list(touches.items())
        races.extend([(word, one[0], other[0]) for one, other in combinations(sides, 2) if do_race(clocks, one, other)])
    return sorted(races)


def can_be_taken(clock, machine, taken):
    """True if all events have been taken that come before the one of the machine with this clock."""
    return all([count <= taken[other] for other, count in enumerate(clock) if other != machine])


def next_machine(clocks, taken):
    """The least machine of which the next event can be taken."""
    for machine, own in enumerate(clocks):
        if taken[machine] < len(own) and can_be_taken(own[taken[machine]], machine, taken):
            return machine
    return None


def one_order(trace):
    """A list of all events of a trace that has clocks, in an order that extends happens-before."""
    clocks = clocks_of(trace)
    taken = [0] * len(trace)
    order = []
    for _ in range(how_many(trace)):
        machine = next_machine(clocks, taken)
        order.append((machine, taken[machine]))
        taken[machine] = taken[machine] + 1
    return order
