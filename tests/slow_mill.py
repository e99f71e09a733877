"""What a mill must tell, by a plain model that keeps whole copies of all it has."""

import copy

import slow_passes
from passmill.facts import fact
from passmill.lines import read_line
from slow_passes import HANGS, KEEPS, NEEDS


class SlowMill:
    """A mill all of whose state is copied ahead of each pass."""

    def __init__(self, program, wary=False):
        self.wary = wary
        self.plugs = []
        self.state = {"program": program, "kept": {}, "log": [], "versions": [program], "lies": []}
        self.older = []

    def ask(self, name):
        """Keep a fact; told is which were made."""
        kept, made = self.state["kept"], []
        if name not in kept:
            for other in HANGS[name]:
                made.extend(self.ask(other))
            kept[name] = fact(self.state["program"], name)
            made.append(name)
        return made

    def do_pass(self, name):
        """Let a pass go; told is whether it turned something."""
        self.older.append(copy.deepcopy(self.state))
        program, kept = self.state["program"], self.state["kept"]
        ahead = set(kept)
        made = self.ask(NEEDS[name]) if name in NEEDS else []
        used = tuple(need for need in (NEEDS.get(name),) if need in ahead)
        better = slow_passes.after(program, [name], self.plugs)
        had = set(kept)
        if better != program:
            self.drop_what_falls(name, better)
        self.state["program"] = better
        self.state["versions"].append(better)
        dropped = tuple(sorted(had - set(self.state["kept"])))
        self.state["log"].append((name, better != program, tuple(made), used, dropped))
        return better != program

    def drop_what_falls(self, name, better):
        """Leave only those kept that stay."""
        kept = self.state["kept"]
        keeps = KEEPS[name] if name in KEEPS else {plug[0]: plug[2] for plug in self.plugs}[name]
        # Again and again, until all on which one hangs stays with it.
        stays = {other for other in kept if other in keeps}
        while any(set(HANGS[other]) & set(kept) - stays for other in stays):
            stays = {other for other in stays if not set(HANGS[other]) & set(kept) - stays}
        lies = [other for other in sorted(stays) if self.wary and fact(better, other) != kept[other]]
        self.state["lies"].extend((len(self.state["log"]), name, lie) for lie in lies)
        stays = {other for other in stays if other not in lies and not set(HANGS[other]) & set(lies)}
        self.state["kept"] = {other: kept[other] for other in kept if other in stays}

    def do_line(self, text):
        """Let the passes of a line go; told is how many."""
        ahead = len(self.state["log"])
        self.do_items(read_line(text))
        return len(self.state["log"]) - ahead

    def do_items(self, items):
        """Let all of these go; told is whether one turned something."""
        turned = []
        for item in items:
            if isinstance(item, str):
                turned.append(self.do_pass(item))
            elif item[0] is not None:
                turned.extend(self.do_items(item[1]) for _ in range(item[0]))
            else:
                rounds = [self.do_items(item[1])]
                while rounds[-1] and len(rounds) < 20:
                    rounds.append(self.do_items(item[1]))
                turned.extend(rounds)
        return any(turned)

    def back(self):
        """Take the last pass back."""
        name = self.state["log"][-1][0]
        self.state = self.older.pop()
        return name
