"""Points [39] to [45] once more, by their words alone and slowly, to compare the program with; and traces by chance."""

FIRST_KEY = (0, 0)


def places_of(trace):
    return [(machine, index) for machine, events in enumerate(trace) for index in range(len(events))]


def event_at(trace, place):
    return trace[place[0]][place[1]]


def stands_before_barrier(trace, place, barrier):
    """Point [40], its last line: the event comes before the barrier event of another machine."""
    events, number = trace[place[0]], event_at(trace, barrier)[1]
    own = [index for index, event in enumerate(events) if event == ("barrier", number)]
    return place[0] != barrier[0] and (not own or place[1] < own[0])


def comes_first(trace, one, other):
    """True if point [40] names this pair."""
    first, second = event_at(trace, one), event_at(trace, other)
    if one[0] == other[0] and one[1] < other[1]:
        return True
    if first[0] == "release" and second[0] == "acquire":
        return first[1] == second[1] and first[2] + 1 == second[2]
    return second[0] == "barrier" and stands_before_barrier(trace, one, other)


def before_of(trace):
    """The dict from each event to the set of all that come before it; an event of a ring is among its own."""
    places = places_of(trace)
    before = {other: {one for one in places if comes_first(trace, one, other)} for other in places}
    for middle in places:
        for other in places:
            if middle in before[other]:
                before[other] |= before[middle]
    return before


def clocks_of(trace):
    before = before_of(trace)
    if any(place in before[place] for place in before):
        return None
    return [
        [
            tuple(
                sum(one[0] == other for one in before[machine, index]) + (other == machine) for other in range(len(trace))
            )
            for index in range(len(events))
        ]
        for machine, events in enumerate(trace)
    ]


def interval_of(trace, place):
    return 1 + sum(event[0] in ("acquire", "release", "barrier") for event in trace[place[0]][:place[1]])


def races_of(trace):
    before = before_of(trace)
    touches = [place for place in places_of(trace) if event_at(trace, place)[0] in ("load", "store")]
    races = set()
    for one in touches:
        for other in touches:
            first, second = event_at(trace, one), event_at(trace, other)
            if one[0] < other[0] and first[1] == second[1] and "store" in (first[0], second[0]):
                if one not in before[other] and other not in before[one]:
                    races.add((first[1], (one[0], interval_of(trace, one)), (other[0], interval_of(trace, other))))
    return sorted(races)


def one_order(trace):
    before, order = before_of(trace), []
    while len(order) < len(before):
        order.append(min(place for place in before if place not in order and before[place] <= set(order)))
    return order


class Judge:
    """Point [44], fault by fault."""

    def __init__(self, trace):
        self.trace = trace
        self.before = before_of(trace)
        self.places = places_of(trace)

    def touches(self, kind, word):
        return [
            place for place in self.places
            if event_at(self.trace, place)[0] == kind and event_at(self.trace, place)[1] == word
        ]

    def lock(self, place, event):
        if event[0] != "release":
            return False
        earlier = [row for row in self.trace[place[0]][:place[1]] if row[0] in ("acquire", "release") and row[1] == event[1]]
        return not earlier or earlier[-1] != ("acquire", event[1], event[2])

    def key(self, place, event):
        if event[0] != "store":
            return False
        others = [other for other in self.touches("store", event[1]) if other != place]
        same = any(event_at(self.trace, other)[3] == event[3] for other in others)
        later = any(place in self.before[other] and event[3] >= event_at(self.trace, other)[3] for other in others)
        return event[3] <= FIRST_KEY or same or later

    def store_of(self, event):
        return [other for other in self.touches("store", event[1]) if event_at(self.trace, other)[3] == event[3]]

    def value(self, place, event):
        if event[0] != "load":
            return False
        values = [event_at(self.trace, store)[2] for store in self.store_of(event)]
        return event[2] not in ([0] if event[3] == FIRST_KEY else values)

    def future(self, place, event):
        return event[0] == "load" and any(place in self.before[store] for store in self.store_of(event))

    def hidden(self, place, event):
        if event[0] != "load":
            return False
        between = [other for other in self.touches("store", event[1]) if other in self.before[place]]
        if event[3] == FIRST_KEY:
            return between != []
        return any(store in self.before[other] for store in self.store_of(event) for other in between)

    def back(self, place, event):
        if event[0] not in ("load", "store"):
            return False
        earlier = [row for row in self.trace[place[0]][:place[1]] if row[0] in ("load", "store") and row[1] == event[1]]
        return any(row[3] > event[3] for row in earlier)


def first_fault(trace):
    judge = Judge(trace)
    if any(place in judge.before[place] for place in judge.places):
        return ("order", -1, -1)
    acquires = [event for events in trace for event in events if event[0] == "acquire"]
    for lock in {event[1] for event in acquires}:
        numbers = sorted(event[2] for event in acquires if event[1] == lock)
        if numbers != list(range(1, len(numbers) + 1)):
            return ("lock", -1, -1)
    for word in ("lock", "key", "value", "future", "hidden", "back"):
        for place in judge.places:
            if getattr(judge, word)(place, event_at(trace, place)):
                return (word, *place)
    return ("", -1, -1)


def event_by_chance(chance):
    """Any event, of few locks, words and numbers, so that they meet each other."""
    kind = chance.choice(("load", "store", "load", "store", "acquire", "release", "barrier", "end"))
    if kind in ("load", "store"):
        return (kind, chance.randrange(3), chance.randrange(3), (chance.randrange(3), chance.randrange(2)))
    if kind in ("acquire", "release"):
        return (kind, chance.randrange(2), chance.randrange(1, 4))
    return (kind,)


def trace_by_chance(chance):
    """A trace without sense, but for its barriers: each machine numbers them 1, 2, .."""
    trace = []
    for _ in range(chance.randrange(5)):
        events, number = [], 0
        for _ in range(chance.randrange(8)):
            event = event_by_chance(chance)
            number += event == ("barrier",)
            events.append(("barrier", number) if event == ("barrier",) else event)
        trace.append(events)
    return trace


def spoilt(chance, trace):
    """A trace in which one event is another one, or gone, or two have changed their places."""
    trace = [list(events) for events in trace]
    places = places_of(trace)
    machine, index = chance.choice(places)
    event = trace[machine][index]
    kind = chance.randrange(4)
    if kind == 0:
        del trace[machine][index]
    elif kind == 1:
        other = chance.randrange(len(trace[machine]))
        trace[machine][index], trace[machine][other] = trace[machine][other], event
    elif event[0] in ("load", "store"):
        similar = [event_at(trace, place) for place in places if event_at(trace, place)[:2] in (("load", event[1]), ("store", event[1]))]
        _, _, value, key = chance.choice(similar)
        if kind == 2:
            trace[machine][index] = (*event[:3], chance.choice((key, (key[0] + 1, key[1]), FIRST_KEY)))
        else:
            trace[machine][index] = (*event[:2], value, key)
    elif event[0] in ("acquire", "release"):
        trace[machine][index] = (*event[:2], event[2] + chance.choice((-1, 1)))
    return trace
