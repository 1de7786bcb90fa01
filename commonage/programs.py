"""Programs: what their instructions are, and what those do that need no other machine (point [3])."""

REGISTERS = 8
LOCKS = 4

END = ("end",)

# The kinds of the parts that stand behind the word of each instruction: "r" is the number of one of
# the registers, "n" any integer, "place" and "lock" are those of the document.
PARTS = {
    "set": ("r", "n"),
    "copy": ("r", "r"),
    "add": ("r", "r", "r"),
    "sub": ("r", "r", "r"),
    "mul": ("r", "r", "r"),
    "load": ("r", "r"),
    "store": ("r", "r"),
    "jump": ("place",),
    "branch": ("r", "place"),
    "acquire": ("lock",),
    "release": ("lock",),
    "barrier": (),
    "end": (),
}


def is_whole(value):
    """True for integers, of which True and False are none."""
    return isinstance(value, int) and not isinstance(value, bool)


def is_part(kind, value):
    """True if the value may stand in an instruction as a part of this kind."""
    if not is_whole(value):
        return False
    if kind == "n":
        return True
    if kind == "place":
        return value >= 0
    numbered = LOCKS if kind == "lock" else REGISTERS
    return 0 <= value < numbered


def is_instruction(value):
    """True if the value, which may be anything, is an instruction of the table."""
    if not isinstance(value, tuple) or len(value) == 0:
        return False
    # A first part that is no string might have no hash, so it must not get to the table.
    if not isinstance(value[0], str) or value[0] not in PARTS:
        return False
    kinds = PARTS[value[0]]
    if len(value) != 1 + len(kinds):
        return False
    return all([is_part(kind, part) for kind, part in zip(kinds, value[1:])])


def is_program(value):
    """True if the value, which may be anything, is a list of instructions."""
    return isinstance(value, list) and all([is_instruction(row) for row in value])


def instruction_at(program, place):
    """The instruction at the place; where the program has none, it ends."""
    if 0 <= place < len(program):
        return program[place]
    return END


def value_in(registers, number):
    """The value of a register; one that is not there was never set, so that it has the first value."""
    if 0 <= number < len(registers):
        return registers[number]
    return 0


def touch_of(instruction, registers, words):
    """The kind and the word of the touch that a load or a store makes, None for the other instructions."""
    word = instruction[0]
    if word == "load":
        return "load", value_in(registers, instruction[2]) % words
    if word == "store":
        return "store", value_in(registers, instruction[1]) % words
    return None


def result_of(instruction, registers):
    """The value that a set, copy, add, sub or mul gives to its first register."""
    word = instruction[0]
    if word == "set":
        return instruction[2]
    first = value_in(registers, instruction[2])
    if word == "copy":
        return first
    second = value_in(registers, instruction[3])
    if word == "add":
        return first + second
    if word == "sub":
        return first - second
    return first * second


def with_value(registers, number, value):
    """A new list of the registers, in which one of them has this value."""
    return [value if at == number else old for at, old in enumerate(registers)]


def after(instruction, registers, place):
    """The registers and the place behind an instruction that touches no word and sends nothing."""
    word = instruction[0]
    if word == "jump":
        return list(registers), instruction[1]
    if word == "branch":
        is_taken = value_in(registers, instruction[1]) > 0
        return list(registers), (instruction[2] if is_taken else place + 1)
    value = result_of(instruction, registers)
    return with_value(registers, instruction[1], value), place + 1
