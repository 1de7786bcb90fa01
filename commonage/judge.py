"""The judge: the first fault of a trace, and the loads that differ from a plain memory (points [44] to [46])."""

from commonage.pages import FIRST_CELL
from commonage.traces import clocks_of, comes_before


def touches_with(trace, kind):
    """The list of the loads or stores, tuples ((machine, index), word, value, key), by machine and index."""
    return [
        ((machine, index), event[1], event[2], event[3])
        for machine, events in enumerate(trace)
        for index, event in enumerate(events)
        if event[0] == kind
    ]


def by_word(stores):
    """The dict from the words to the lists of their stores."""
    found = {}
    for row in stores:
        found.setdefault(row[1], []).append(row)
    return found


def by_word_and_key(stores):
    """The dict from tuples (word, key) to the stores with them."""
    found = {}
    for row in stores:
        found[(row[1], row[3])] = row
    return found


def new_case(trace, clocks):
    """What the judge knows of a trace."""
    stores = touches_with(trace, "store")
    return {
        "trace": trace,
        "clocks": clocks,
        "stores": stores,
        "loads": touches_with(trace, "load"),
        "by_word": by_word(stores),
        "by_key": by_word_and_key(stores),
    }


def numbers_of_acquires(trace):
    """The dict from the locks to the lists of the numbers of their acquires."""
    found = {}
    for events in trace:
        for event in events:
            if event[0] == "acquire":
                found.setdefault(event[1], []).append(event[2])
    return found


def are_granted_in_turn(trace):
    """True if the numbers of the acquires of each lock are 1, 2, .., each once."""
    found = numbers_of_acquires(trace)
    return all([sorted(numbers) == list(range(1, len(numbers) + 1)) for numbers in found.values()])


def wrong_releases_of(events):
    """The list of the indexes of a machine's releases of locks that it does not hold by this number."""
    held = {}
    found = []
    for index, event in enumerate(events):
        if event[0] == "acquire":
            held[event[1]] = event[2]
        elif event[0] == "release":
            if held.get(event[1]) != event[2]:
                found.append(index)
            held[event[1]] = None
    return found


def wrong_releases(case):
    """The places of the releases that have the fault "lock"."""
    return [(machine, index) for machine, events in enumerate(case["trace"]) for index in wrong_releases_of(events)]


def is_wrong_beside(clocks, store, other):
    """True if the key of the first store is wrong because of the other one, of the same word."""
    if store[0] == other[0]:
        return False
    return store[3] == other[3] or (store[3] >= other[3] and comes_before(clocks, store[0], other[0]))


def has_wrong_key(case, store):
    """True if the store has the fault "key"."""
    if store[3] <= FIRST_CELL[1]:
        return True
    return any([is_wrong_beside(case["clocks"], store, other) for other in case["by_word"][store[1]]])


def wrong_keys(case):
    """The places of the stores that have the fault "key"."""
    return [store[0] for store in case["stores"] if has_wrong_key(case, store)]


def store_of(case, load):
    """The store of which the load has the key, None if there is none."""
    return case["by_key"].get((load[1], load[3]))


def has_wrong_value(case, load):
    """True if the load has the fault "value"."""
    if load[3] == FIRST_CELL[1]:
        return load[2] != FIRST_CELL[0]
    store = store_of(case, load)
    return store is None or load[2] != store[2]


def wrong_values(case):
    """The places of the loads that have the fault "value"."""
    return [load[0] for load in case["loads"] if has_wrong_value(case, load)]


def is_of_future(case, load):
    """True if the load has the fault "future"."""
    store = store_of(case, load)
    return store is not None and comes_before(case["clocks"], load[0], store[0])


def loads_of_future(case):
    """The places of the loads that have the fault "future"."""
    return [load[0] for load in case["loads"] if is_of_future(case, load)]


def hides(clocks, other, load, store):
    """True if another store of the word comes before the load and behind its store, None for the beginning."""
    if not comes_before(clocks, other[0], load[0]):
        return False
    return store is None or comes_before(clocks, store[0], other[0])


def is_hidden(case, load):
    """True if the load has the fault "hidden"."""
    store = store_of(case, load)
    return any([hides(case["clocks"], other, load, store) for other in case["by_word"].get(load[1], [])])


def hidden_loads(case):
    """The places of the loads that have the fault "hidden"."""
    return [load[0] for load in case["loads"] if is_hidden(case, load)]


def steps_back_of(events):
    """The list of the indexes of a machine's touches that have a lesser key than an earlier one of the word."""
    greatest = {}
    found = []
    for index, event in enumerate(events):
        if event[0] in ("load", "store"):
            before = greatest.get(event[1], event[3])
            if event[3] < before:
                found.append(index)
            greatest[event[1]] = max(before, event[3])
    return found


def steps_back(case):
    """The places of the loads and stores that have the fault "back"."""
    return [(machine, index) for machine, events in enumerate(case["trace"]) for index in steps_back_of(events)]


# The faults of single events, in the order in which they are looked for; each one rests on those before.
FAULTS = {
    "lock": wrong_releases,
    "key": wrong_keys,
    "value": wrong_values,
    "future": loads_of_future,
    "hidden": hidden_loads,
    "back": steps_back,
}


def first_fault(trace):
    """The first fault of the trace, a tuple (word, machine, index)."""
    clocks = clocks_of(trace)
    if clocks is None:
        return "order", -1, -1
    if not are_granted_in_turn(trace):
        return "lock", -1, -1
    case = new_case(trace, clocks)
    for word in FAULTS:
        look_for = FAULTS[word]
        places = look_for(case)
        if len(places) > 0:
            machine, index = places[0]
            return word, machine, index
    return "", -1, -1


def differing(trace, order):
    """The list of the loads that differ when the plain memory is led through the order."""
    memory = {}
    found = []
    for machine, index in order:
        event = trace[machine][index]
        if event[0] == "store":
            memory[event[1]] = event[2]
        elif event[0] == "load" and event[2] != memory.get(event[1], FIRST_CELL[0]):
            found.append((machine, index))
    return found
