"""The letters of the nodes: what goes with them, and what they do where they are taken (points [34] to [37])."""

from commonage.barriers import clocks_of, come, go_on, is_complete
from commonage.channels import answer, confirm, parcels, send, take
from commonage.clocks import covered, merged, not_covered, zero_clock
from commonage.cores import go_to_next_place, is_ready, note, run_on
from commonage.homes import arrived, chosen_homes, had, is_fresh, needs
from commonage.locks import ask, let_go, new_lock
from commonage.pages import merge, page_of, rows_of
from commonage.races import report


def send_letter(core, target, letter):
    """Sends a letter; one to the node itself is taken at once."""
    if target == core["machine"]:
        take_letter(core, target, letter)
    else:
        core["sent"].append((target, send(core["rows"], target, letter)))


def list_of_records(core):
    """The list of the records that the node knows."""
    return list(core["records"].values())


def know(core, records):
    """The records become known, unless the clock of the last barrier covers them."""
    for record in not_covered(records, core["passed"]):
        core["records"][(record[0], record[1])] = record


def records_for(core, before, clock):
    """The known records that the clock covers and the one before does not, as a letter has them."""
    records = not_covered(covered(list_of_records(core), clock), before)
    return tuple(sorted(records, key=lambda record: (record[1], record[0])))


def untold(core, target, clock):
    """The records for a letter to the target with this clock, which will not be sent to it once more."""
    before = core["told"][target]
    core["told"][target] = clock
    return records_for(core, before, clock)


def need_stores(core, records):
    """The pages need what these records of other nodes have stored."""
    for machine, number, _, _, stores in records:
        if machine != core["machine"]:
            for word in stores:
                needs(core["held"][page_of(word)], machine, number)


def learn(core, clock, records):
    """What a grant or a go brings: the records become known, and the clock covers that of the letter."""
    know(core, records)
    before = core["clock"]
    core["clock"] = merged(before, clock)
    need_stores(core, not_covered(covered(list_of_records(core), core["clock"]), before))


def can_answer(core, waiting):
    """True if the copy is fresh for what the ask that waits needs."""
    _, page, need = waiting
    return is_fresh(core["held"][page], need, core["machine"])


def send_page(core, target, page):
    """Sends the whole copy of a page, with what it has."""
    send_letter(core, target, ("page", page, rows_of(core["copies"][page]), core["held"][page]["has"]))


def answer_asks(core):
    """Answers the asks that can be answered, in the order in which they came."""
    ready = [waiting for waiting in core["asks"] if can_answer(core, waiting)]
    core["asks"] = [waiting for waiting in core["asks"] if not can_answer(core, waiting)]
    for source, page, _ in ready:
        send_page(core, source, page)


def pages_changed(core):
    """What follows a letter about pages: asks are answered, and the node may have waited for the page."""
    answer_asks(core)
    if core["state"] == "page" and is_ready(core, core["waits"][1]):
        run_on(core)


def take_difference(core, source, letter):
    """The difference of an interval of another node comes to the home."""
    page, number, rows = letter[1:]
    merge(core["copies"][page], rows)
    arrived(core["held"][page], source, number)
    pages_changed(core)


def take_page(core, source, letter):
    """A home answers with its copy of the page."""
    page, rows, has = letter[1:]
    merge(core["copies"][page], rows)
    had(core["held"][page], has)
    pages_changed(core)


def take_ask_page(core, source, letter):
    """Another node asks for a page."""
    page, need = letter[1:]
    core["asks"] = core["asks"] + [(source, page, need)]
    pages_changed(core)


def managed(core, lock):
    """The lock, which this node manages."""
    return core["locks"].setdefault(lock, new_lock(core["machines"]))


def send_grant(core, lock, grant):
    """Sends a grant of the lock, if there is one."""
    if grant is not None:
        machine, asked, number, clock = grant
        send_letter(core, machine, ("grant", lock, number, clock, records_for(core, asked, clock)))


def take_ask_lock(core, source, letter):
    """A node asks the manager for a lock."""
    lock, clock = letter[1:]
    send_grant(core, lock, ask(managed(core, lock), source, clock))


def take_let_go(core, source, letter):
    """The holder of a lock tells the manager that it lets it go."""
    lock, clock, records = letter[1:]
    know(core, records)
    send_grant(core, lock, let_go(managed(core, lock), clock))


def take_grant(core, source, letter):
    """The node holds the lock that it has waited for."""
    lock, number, clock, records = letter[1:]
    learn(core, clock, records)
    core["grants"][lock] = number
    note(core, ("acquire", lock, number))
    run_on(core)
    go_to_next_place(core)


def clock_of_barrier(core):
    """The least clock that covers all clocks with which the nodes came."""
    clock = zero_clock(core["machines"])
    for came in clocks_of(core["master"]).values():
        clock = merged(clock, came)
    return clock


def letters_of_go(core, clock, homes):
    """The barrier is passed; returns the letters that tell this, one for each node."""
    clocks = clocks_of(core["master"])
    number = go_on(core["master"], core["machines"])
    return [
        ("go", number, clock, records_for(core, clocks[target], clock), homes) for target in range(core["machines"])
    ]


def pass_barrier(core):
    """All have come: the master reports the races, chooses the homes and tells everybody to go on."""
    clock = clock_of_barrier(core)
    epoch = covered(list_of_records(core), clock)
    core["races"].extend(report(epoch))
    # All letters are made before one is sent: the master takes its own at once, and gives the records back.
    letters = letters_of_go(core, clock, chosen_homes(core["homes"], epoch))
    for target, letter in enumerate(letters):
        send_letter(core, target, letter)


def take_come(core, source, letter):
    """A node tells the master that it has come to the next barrier, or has ended."""
    clock, records, ended = letter[1:]
    know(core, records)
    come(core["master"], source, clock, ended)
    if is_complete(core["master"], core["machines"]):
        pass_barrier(core)


def give_back(core, clock):
    """The records that the clock of a barrier covers are not known any longer."""
    kept = not_covered(list_of_records(core), clock)
    core["passed"] = clock
    core["records"] = {(record[0], record[1]): record for record in kept}


def take_go(core, source, letter):
    """A barrier is passed."""
    number, clock, records, homes = letter[1:]
    learn(core, clock, records)
    core["homes"] = tuple(homes)
    give_back(core, clock)
    # A node that has ended takes the letter too, but goes nowhere.
    if core["state"] == "barrier":
        note(core, ("barrier", number))
        run_on(core)
        go_to_next_place(core)


TAKERS = {
    "difference": take_difference,
    "page": take_page,
    "ask_page": take_ask_page,
    "ask_lock": take_ask_lock,
    "let_go": take_let_go,
    "grant": take_grant,
    "come": take_come,
    "go": take_go,
}


def take_letter(core, source, letter):
    """Does what the letter from the source says."""
    taker = TAKERS[letter[0]]
    taker(core, source, letter)


def taken_from(core, source):
    """The number of the answer to a machine."""
    return answer(core["rows"], source)


def is_next(core, source, parcel):
    """True if the parcel is the next one of the row from the source."""
    return parcel[0] == taken_from(core, source) + 1


def take_parcel(core, source, parcel):
    """A parcel arrives: what its letter says is done, if it is the next one of its row."""
    letter = take(core["rows"], source, parcel)
    if letter is not None:
        take_letter(core, source, letter)


def take_answer(core, target, number):
    """An answer of the target arrives."""
    confirm(core["rows"], target, number)


def kept_for(core, target):
    """The list of the parcels to the target that are kept."""
    return parcels(core["rows"], target)
