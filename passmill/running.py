"""Runs of programs, and whether one program does as well as another."""

from passmill.errors import NoInputs, NoNumber
from passmill.kinds import MODULUS, is_value, is_whole
from passmill.programs import END_WORDS, check_program, rows_of

MOST_INPUTS = 30
MOST_TURNS = 9999


class State:
    """A run under way: what places bear, which inputs are left, what was put."""

    def __init__(self, inputs):
        self.borne = {}
        self.inputs = list(inputs)
        self.taken = 0
        self.puts = []

    def value_of(self, place):
        """What a place bears; at first that is 0."""
        return self.borne.get(place, 0)

    def next_input(self):
        """The next input, or 0, where none is left."""
        if self.taken == len(self.inputs):
            return 0
        self.taken += 1
        return self.inputs[self.taken - 1]

    def do_step(self, step):
        """Do one step, whichever it is."""
        if step[0] == "put":
            self.puts.append(self.value_of(step[1]))
        else:
            self.borne[step[1]] = self.value_for(step)

    def value_for(self, step):
        """What the place of a step that writes is to bear."""
        word = step[0]
        if word == "set":
            return step[2]
        if word == "copy":
            return self.value_of(step[2])
        if word == "get":
            return self.next_input()
        return sum_of(word, self.value_of(step[2]), self.value_of(step[3]))

    def block_behind(self, end):
        """The block to which an end other than stop leads now."""
        if end[0] == "go":
            return end[1]
        return end[3] if self.value_of(end[1]) == 0 else end[2]


def sum_of(word, left, right):
    """What a sum of two values comes to."""
    if word == "add":
        return (left + right) % MODULUS
    if word == "sub":
        return (left - right) % MODULUS
    if word == "mul":
        return (left * right) % MODULUS
    if word == "less":
        return 1 if left < right else 0
    return 1 if left == right else 0


def check_inputs(thing):
    """Refuse what are no inputs."""
    if not isinstance(thing, list) or len(thing) > MOST_INPUTS:
        raise NoInputs("inputs are a list of at most 30 values")
    if not all(is_value(worth) for worth in thing):
        raise NoInputs("each input is a whole number from 0 to 9972")


def check_turns(thing):
    """Refuse what does not tell how many steps and ends may be done."""
    if not is_whole(thing, 1, MOST_TURNS):
        raise NoNumber("turns are a whole number from 1 to 9999")


def run(program, inputs, *, turns=500):
    """What a program puts, how its run ends, and how many steps and ends it does."""
    check_program(program)
    check_inputs(inputs)
    check_turns(turns)
    rows_by_name = {block[0]: rows_of(block) for block in program}
    state = State(inputs)
    rows = rows_of(program[0])
    at = 0
    for done in range(turns):
        row = rows[at]
        if row[0] == "stop":
            return tuple(state.puts), "stop", done + 1
        if row[0] in END_WORDS:
            rows = rows_by_name[state.block_behind(row)]
            at = 0
        else:
            state.do_step(row)
            at += 1
    return tuple(state.puts), "limit", turns


def as_good(program, other, inputs, *, turns=500):
    """Whether a program does as well as the other one with these inputs."""
    # The two runs refuse in the order that is asked for: the other program comes last.
    puts, ending, done = run(program, inputs, turns=turns)
    other_puts, other_ending, other_done = run(other, inputs, turns=turns)
    if other_ending == "stop":
        return ending == "stop" and puts == other_puts and done <= other_done
    return puts[:len(other_puts)] == other_puts
