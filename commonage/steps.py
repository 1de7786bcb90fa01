"""The steps of a node: how it carries out its instructions and ends its intervals (points [32] and [33])."""

from commonage.clocks import make_record, with_count
from commonage.cores import go_to_next_place, is_ready, note, wait_for
from commonage.homes import arrived
from commonage.letters import answer_asks, know, send_letter, take_parcel, untold
from commonage.locks import manager_of
from commonage.pages import PAGE_WORDS, difference, page_of, place_of, store
from commonage.programs import after, instruction_at, touch_of, value_in, with_value

MASTER = 0


def stored_words(core):
    """The list of the words that the present interval has stored."""
    return [page * PAGE_WORDS + place for page, cells in core["stored"].items() for place in cells]


def know_own_record(core):
    """Makes the record of the present interval, if it touched any word."""
    machine, clock, words = core["machine"], core["clock"], stored_words(core)
    if len(core["loads"]) > 0 or len(words) > 0:
        know(core, [make_record(machine, clock[machine], clock, core["loads"], words)])


def send_difference(core, page, number):
    """Sends what the interval with this number stored in the page to its home, if that is another node."""
    home = core["homes"][page]
    if home != core["machine"]:
        send_letter(core, home, ("difference", page, number, difference(core["stored"][page])))


def end_interval(core):
    """Ends the present interval; returns its clock, which goes with the letters that follow."""
    machine, clock = core["machine"], core["clock"]
    number = clock[machine]
    know_own_record(core)
    for page in sorted(core["stored"]):
        arrived(core["held"][page], machine, number)
        send_difference(core, page, number)
    core["clock"] = with_count(clock, machine, number + 1)
    core["loads"] = []
    core["stored"] = {}
    answer_asks(core)
    return clock


def compute(core, instruction):
    """Carries out an instruction that changes registers and place only."""
    core["registers"], core["place"] = after(instruction, core["registers"], core["place"])


def wait_for_page(core, page):
    """The node waits until the page is ready; its home need not be asked by itself."""
    wait_for(core, ("page", page))
    home = core["homes"][page]
    if home != core["machine"]:
        send_letter(core, home, ("ask_page", page, core["held"][page]["need"]))


def load_word(core, number, word):
    """The register with this number gets the word."""
    value, key = core["copies"][page_of(word)][place_of(word)]
    core["registers"] = with_value(core["registers"], number, value)
    core["loads"].append(word)
    note(core, ("load", word, value, key))


def store_word(core, word, value):
    """The word gets the value."""
    page, place = page_of(word), place_of(word)
    key = store(core["copies"][page], place, value, core["machine"])
    core["stored"].setdefault(page, {})[place] = (value, key)
    note(core, ("store", word, value, key))


def touch(core, instruction):
    """Carries out a load or a store, if the page is ready."""
    kind, word = touch_of(instruction, core["registers"], len(core["copies"]) * PAGE_WORDS)
    if not is_ready(core, page_of(word)):
        wait_for_page(core, page_of(word))
        return
    if kind == "load":
        load_word(core, instruction[1], word)
    else:
        store_word(core, word, value_in(core["registers"], instruction[2]))
    go_to_next_place(core)


def let_lock_go(core, lock, clock):
    """Lets a lock go that the node holds, with the clock of the interval that has ended."""
    note(core, ("release", lock, core["grants"].pop(lock)))
    manager = manager_of(lock, core["machines"])
    send_letter(core, manager, ("let_go", lock, clock, untold(core, manager, clock)))


def come_to_master(core, clock, ended):
    """Tells the master that the node has come to the next barrier, or has ended."""
    send_letter(core, MASTER, ("come", clock, untold(core, MASTER, clock), ended))


def finish(core, state):
    """The program is over, with this state."""
    clock = end_interval(core)
    for lock in sorted(core["grants"]):
        let_lock_go(core, lock, clock)
    note(core, ("end",) if state == "ended" else ("fault",))
    # The master may take its own letter at once, and be told to go on; a node that has ended does not.
    core["state"] = state
    come_to_master(core, clock, True)


def acquire(core, instruction):
    """Asks for a lock; to ask for one that the node holds is a fault."""
    lock = instruction[1]
    if lock in core["grants"]:
        finish(core, "fault")
        return
    clock = end_interval(core)
    wait_for(core, ("lock", lock))
    send_letter(core, manager_of(lock, core["machines"]), ("ask_lock", lock, clock))


def release(core, instruction):
    """Lets a lock go; to let one go that the node does not hold is a fault."""
    lock = instruction[1]
    if lock not in core["grants"]:
        finish(core, "fault")
        return
    let_lock_go(core, lock, end_interval(core))
    go_to_next_place(core)


def barrier(core, instruction):
    """Comes to the next barrier."""
    clock = end_interval(core)
    wait_for(core, ("barrier",))
    come_to_master(core, clock, False)


def end(core, instruction):
    """Ends the program."""
    finish(core, "ended")


ACTIONS = {
    "set": compute,
    "copy": compute,
    "add": compute,
    "sub": compute,
    "mul": compute,
    "jump": compute,
    "branch": compute,
    "load": touch,
    "store": touch,
    "acquire": acquire,
    "release": release,
    "barrier": barrier,
    "end": end,
}


def make_step(core, program):
    """Makes a step, if the state is "run"."""
    if core["state"] == "run":
        core["steps"] = core["steps"] + 1
        instruction = instruction_at(program, core["place"])
        action = ACTIONS[instruction[0]]
        action(core, instruction)


def follow(core, program, entry):
    """Does once more what an entry of the log tells of."""
    while core["steps"] < entry[1] and core["state"] == "run":
        make_step(core, program)
    if entry[0] == "letter":
        source, parcel = entry[2:]
        take_parcel(core, source, parcel)
