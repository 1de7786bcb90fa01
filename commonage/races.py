"""Races: the report of all of them, and whether one paper of a race is right (points [14] to [17])."""

from itertools import combinations

from commonage.clocks import are_unordered, ascending, each_once
from commonage.programs import is_whole


def kind_of(record, word):
    """How the interval touches the word, None if it does not."""
    if word in record[4]:
        return "store"
    if word in record[3]:
        return "load"
    return None


def sides_of(records):
    """The dict from each word that is touched to the sides that its papers can have, ascending."""
    found = {}
    for record in ascending(records):
        machine, number, clock, loads, stores = record
        for word in each_once(loads + stores):
            found.setdefault(word, []).append((machine, number, clock, kind_of(record, word)))
    return found


def do_race(one, other):
    """True if two sides of the same word race."""
    # A side begins as a record does, with machine, number and clock, and no more is asked for.
    return "store" in (one[3], other[3]) and are_unordered(one, other)


def papers_of(word, sides):
    """The list of the papers of a word, in the order of its sides."""
    return [(word, one, other) for one, other in combinations(sides, 2) if do_race(one, other)]


def report(records):
    """The list of the papers of all races of the records."""
    sides = sides_of(records)
    papers = []
    for word in sorted(sides):
        papers.extend(papers_of(word, sides[word]))
    return papers


def is_clock(value):
    """True if the value, which may be anything, is a tuple of integers."""
    return isinstance(value, tuple) and all([is_whole(count) for count in value])


def is_side(value):
    """True if the value, which may be anything, has the form of one side of a paper."""
    if not isinstance(value, tuple) or len(value) != 4:
        return False
    machine, number, clock, kind = value
    return is_whole(machine) and is_whole(number) and is_clock(clock) and isinstance(kind, str)


def is_paper(value):
    """True if the value, which may be anything, has the form of a paper."""
    if not isinstance(value, tuple) or len(value) != 3:
        return False
    word, one, other = value
    return is_whole(word) and is_side(one) and is_side(other)


def is_told(side, word, records):
    """True if one of the records tells of this interval with this clock, and that it touches the word so."""
    return any([record[:3] == side[:3] and kind_of(record, word) == side[3] for record in records])


def is_right(paper, records):
    """True if the paper, which may be any value, is right for these records."""
    # What is no integer may be equal to one all the same, so the form comes before the values.
    if not is_paper(paper):
        return False
    word, one, other = paper
    if not is_told(one, word, records) or not is_told(other, word, records):
        return False
    return one[0] < other[0] and do_race(one, other)
