"""The core of a node: all of its state, as one dict of plain values that a disk can save (point [31])."""

from commonage.barriers import new_master
from commonage.channels import new_rows
from commonage.clocks import with_count, zero_clock
from commonage.homes import first_homes, is_fresh, new_held
from commonage.pages import new_page
from commonage.programs import REGISTERS


def new_core(machine, machines, pages):
    """The core of a node at the beginning."""
    return {
        "machine": machine,
        "machines": machines,
        # What the program does.
        "state": "run",
        "waits": None,
        "place": 0,
        "registers": [0] * REGISTERS,
        "steps": 0,
        "events": [],
        # The present interval: its clock, the words that it loaded, and by page and place the cells that it stored.
        "clock": with_count(zero_clock(machines), machine, 1),
        "loads": [],
        "stored": {},
        # The known records by machine and number, the clock of the last barrier, and by machine the clock that
        # was sent to it last with records.
        "records": {},
        "passed": zero_clock(machines),
        "told": [zero_clock(machines)] * machines,
        # The pages, and the asks for them that wait: tuples (source, page, need).
        "copies": [new_page() for _ in range(pages)],
        "held": [new_held(machines) for _ in range(pages)],
        "homes": first_homes(machines, pages),
        "asks": [],
        # The locks that this node manages, and by lock the numbers of the grants of those that it holds.
        "locks": {},
        "grants": {},
        # Only machine 0 uses these two.
        "master": new_master(),
        "races": [],
        "rows": new_rows(machines),
        # The tuples (target, parcel) of what was sent and not yet handed on.
        "sent": [],
    }


def note(core, event):
    """Notes an event."""
    core["events"].append(event)


def wait_for(core, waits):
    """The node waits for this, a tuple that begins with the word of its state."""
    core["state"] = waits[0]
    core["waits"] = waits


def run_on(core):
    """The node waits for nothing any longer."""
    core["state"] = "run"
    core["waits"] = None


def go_to_next_place(core):
    """The place is the next one."""
    core["place"] = core["place"] + 1


def is_ready(core, page):
    """True if the copy of the page is fresh for its need."""
    held = core["held"][page]
    return is_fresh(held, held["need"], core["machine"])


def take_sent(core):
    """The list of what was sent since this was asked for the last time."""
    sent = core["sent"]
    core["sent"] = []
    return sent
