"""Homes of pages, and what a copy of a page needs and has (points [10] to [13])."""

from commonage.clocks import is_within, merged, with_count, zero_clock
from commonage.pages import page_of


def first_homes(machines, pages):
    """The tuple of the first homes by page."""
    return tuple([page % machines for page in range(pages)])


def storers_of(records):
    """The dict from the pages that the records stored to the list of the machines that did, each once."""
    found = {}
    for record in records:
        machine = record[0]
        for word in record[4]:
            machines = found.setdefault(page_of(word), [])
            if machine not in machines:
                machines.append(machine)
    return found


def chosen_home(home, storers):
    """The next home of a page that these machines stored."""
    return storers[0] if len(storers) == 1 else home


def chosen_homes(homes, records):
    """The tuple of the homes behind a barrier; the records are those of all intervals of the epoch."""
    storers = storers_of(records)
    return tuple([chosen_home(home, storers.get(page, [])) for page, home in enumerate(homes)])


def new_held(machines):
    """What a copy needs and has at the beginning."""
    return {"need": zero_clock(machines), "has": zero_clock(machines)}


def raised(clock, machine, number):
    """The clock in which the count of the machine is at least the number."""
    return tuple([max(count, number) if at == machine else count for at, count in enumerate(clock)])


def needs(held, machine, number):
    """Notes, in what is held, that the copy needs this interval of the machine."""
    held["need"] = raised(held["need"], machine, number)


def arrived(held, machine, number):
    """Notes, in what is held, that the difference of this interval of the machine has been merged."""
    held["has"] = raised(held["has"], machine, number)


def had(held, clock):
    """Notes, in what is held, that rows with this has have been merged."""
    held["has"] = merged(held["has"], clock)


def is_fresh(held, needed, owner):
    """True if the copy of the owner is fresh for the needed clock."""
    # The owner's own stores are in its copy at once, so that nothing of it can be missing.
    return is_within(with_count(needed, owner, 0), held["has"])
