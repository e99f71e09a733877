"""Mills: a program, the facts that are kept of it, and the passes that went."""

from passmill.errors import NoBack, NoPass, Taken
from passmill.facts import check_fact_name
from passmill.keeping import drop, drop_unkept, false_facts, make_missing
from passmill.lines import read_line
from passmill.passes import is_pass, keeps_of, needs_of, pass_made
from passmill.plugs import check_plug
from passmill.programs import check_program

MOST_ROUNDS = 20


class Mill:
    """A program that is made better pass by pass, with facts that are kept as long as they hold."""

    def __init__(self, program, *, wary=False):
        check_program(program)
        self.wary = wary
        self.plugged = {}
        self.kept = {}
        self.shown = [program]
        self.rows = []
        self.found = []
        # For each pass that went the facts that were kept, and how many lies were known, ahead of it.
        self.ahead = []

    def __len__(self):
        return len(self.rows)

    def __str__(self):
        return " ".join([row[0] for row in self.rows])

    def plug(self, plug):
        """Take a plugged pass more."""
        check_plug(plug)
        if is_pass(plug[0], self.plugged):
            raise Taken("a pass has this name")
        self.plugged[plug[0]] = plug

    def program(self):
        """The program as it is."""
        return self.shown[-1]

    def fact(self, name):
        """The fact of this name, kept or made."""
        check_fact_name(name)
        make_missing(self.program(), name, self.kept)
        return self.kept[name]

    def facts(self):
        """The names of all facts that are kept, rising."""
        return sorted(self.kept)

    def do_pass(self, name):
        """Let a pass go; told is whether it turned the program."""
        self.check_pass(name)
        self.ahead.append((dict(self.kept), len(self.found)))
        needs = needs_of(name)
        used = tuple(need for need in needs if need in self.kept)
        made = [other for need in needs for other in make_missing(self.program(), need, self.kept)]
        program = self.made_by(name)
        turned = program != self.program()
        dropped = self.dropped_by(name, program) if turned else ()
        self.shown.append(program)
        self.rows.append((name, turned, tuple(made), used, dropped))
        return turned

    def check_pass(self, name):
        """Refuse what is not the name of a pass."""
        if not is_pass(name, self.plugged):
            raise NoPass("no pass has this name")

    def made_by(self, name):
        """What a pass makes of the program as it is."""
        # Plugged passes may have broken what they said they keep: where nobody looked, no pass may build on it.
        vouched = self.kept if self.wary or not self.plugged else {}
        return pass_made(self.program(), name, self.plugged, vouched)

    def dropped_by(self, name, program):
        """Drop what is not kept by a pass that made this program, and what is found false; told are the names."""
        dropped = drop_unkept(self.kept, keeps_of(name, self.plugged))
        if self.wary:
            lies = false_facts(program, self.kept)
            self.found.extend([(len(self.rows), name, lie) for lie in lies])
            dropped.extend(drop(self.kept, lies))
        return tuple(sorted(dropped))

    def do_line(self, text):
        """Let the passes of a line go; told is how many went."""
        items = read_line(text)
        self.check_items(items)
        ahead = len(self.rows)
        self.do_items(items)
        return len(self.rows) - ahead

    def check_items(self, items):
        """Refuse items of which a name is not that of a pass."""
        for item in items:
            if isinstance(item, str):
                self.check_pass(item)
            else:
                self.check_items(item[1])

    def do_items(self, items):
        """Let the passes of these items go; told is whether one of them turned the program."""
        turned = False
        for item in items:
            if self.do_item(item):
                turned = True
        return turned

    def do_item(self, item):
        """Let the passes of one item go; told is whether one of them turned the program."""
        if isinstance(item, str):
            return self.do_pass(item)
        times, items = item
        if times is None:
            return self.do_till_rest(items)
        return self.do_items(items * times)

    def do_till_rest(self, items):
        """Let the passes of these items go until a round turns nothing, or the last one that is allowed."""
        for rounds in range(MOST_ROUNDS):
            if not self.do_items(items):
                return rounds > 0
        return True

    def log(self):
        """A row for each pass that went: its name, whether it turned, and the facts made, used and dropped."""
        return list(self.rows)

    def versions(self):
        """The program at first, and behind each pass."""
        return list(self.shown)

    def lies(self):
        """A row for each fact that was found false: how many passes had gone ahead, the pass, and the fact."""
        return list(self.found)

    def back(self):
        """Take the last pass back; told is its name."""
        if not self.rows:
            raise NoBack("no pass is left to be taken back")
        name = self.rows.pop()[0]
        self.shown.pop()
        self.kept, lies = self.ahead.pop()
        self.found = self.found[:lies]
        return name
