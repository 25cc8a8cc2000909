"""A second, slow way to lead runs, for tests only: each actor is a generator over the tree of its lines."""

import random


class Again(Exception):
    pass


def tree(rows):
    """Return rows (number, words) as a list of (number, words, lines of the block, lines behind `else`)."""
    top = []
    open_lists, nodes = [top], []
    for number, words in rows:
        if words[0] == "if":
            nodes.append((number, words, [], []))
            open_lists[-1].append(nodes[-1])
            open_lists.append(nodes[-1][2])
        elif words[0] == "else":
            open_lists[-1] = nodes[-1][3]
        elif words[0] == "end":
            open_lists.pop()
            nodes.pop()
        else:
            open_lists[-1].append((number, words, [], []))
    return top


def trees(text):
    """Return the trees of the actors of a world, by their names."""
    rows = {}
    actor = None
    for number, line in enumerate(text.split("\n"), 1):
        words = line.split(" ")
        if words[0] in ("writer", "reader"):
            actor = words[-1]
            rows[actor] = []
        elif actor is not None:
            rows[actor].append((number, words))
    return {name: tree(lines) for name, lines in rows.items()}


class Model:
    def __init__(self, text, values):
        self.values = values
        self.trees = trees(text)
        heads = [line.split(" ") for line in text.split("\n")]
        self.bounds = {words[1]: int(words[2]) for words in heads if words[0] == "flag"}
        self.flags = dict.fromkeys(self.bounds, 0)
        self.cells = {words[1]: list(values[0]) for words in heads if words[0] == "register"}
        self.going = {}
        self.pending = {}
        self.begun = self.ended = 0
        self.olds, self.found, self.calls = {}, {}, []

    def acts(self, actor):
        """Yield (line, cell, whether it can be done, what it does) for each step within a round or call."""
        while True:
            self.found[actor] = {}
            marks = {}
            try:
                yield from self.acts_of(self.trees[actor], actor, marks)
                return
            except Again:
                pass

    def acts_of(self, nodes, actor, marks):
        for number, words, inner, other in nodes:
            yield from self.acts_of_line(number, words, actor, marks)
            if words[0] == "again":
                raise Again
            if words[0] == "if":
                one, two = [int(word) if word.isdigit() else marks.get(word, 0) for word in (words[1], words[3])]
                yield from self.acts_of(inner if one == two else other, actor, marks)

    def acts_of_line(self, number, words, actor, marks):
        def always():
            return True

        if words[0] in ("write", "read"):
            cells = list(range(len(self.values[0])))
            for cell in cells if words[2] == "down" else cells[::-1]:
                yield number, cell, always, lambda: self.sweep(actor, words, cell)
        elif words[0] == "wait":
            yield number, None, lambda: self.flags[words[1]] == int(words[2]), lambda: None
        else:
            yield number, None, always, lambda: self.flag(words, marks)

    def sweep(self, actor, words, cell):
        if words[0] == "write":
            self.cells[words[1]][cell] = self.values[self.begun][cell]
        else:
            self.found[actor].setdefault(words[4], {})[cell] = self.cells[words[1]][cell]

    def flag(self, words, marks):
        if words[0] == "set":
            self.flags[words[1]] = int(words[2])
        elif words[0] == "step":
            self.flags[words[1]] += 1
            if self.flags[words[1]] == self.bounds[words[1]]:
                self.flags[words[1]] = 0
        elif words[0] == "look":
            marks[words[3]] = self.flags[words[1]]

    def step(self, actor):
        if self.pending.get(actor) is None:
            if actor == "writer":
                if self.begun + 1 >= len(self.values):
                    return actor, None, None
                self.begun += 1
            else:
                self.olds[actor] = self.ended
            self.going[actor] = self.acts(actor)
            self.pending[actor] = next(self.going[actor])
            return actor, 0, None
        line, cell, ready, act = self.pending[actor]
        if not ready():
            return actor, None, None
        act()
        self.pending[actor] = next(self.going[actor], None)
        if self.pending[actor] is None:
            self.end(actor)
        return actor, line, cell

    def end(self, actor):
        if actor == "writer":
            self.ended = self.begun
            return
        rows = {name: tuple(digits[cell] for cell in sorted(digits)) for name, digits in self.found[actor].items()}
        self.calls.append((actor, self.olds[actor], self.begun, rows))


class Maker:
    """Makes worlds and runs, the same ones for the same seed."""

    def __init__(self, seed):
        self.random = random.Random(seed)

    def text(self):
        pick = self.random
        self.flags = {name: pick.randint(2, 4) for name in "fgh"[:pick.randint(0, 3)]}
        self.registers = ["x", "y"][:pick.randint(1, 2)]
        self.names = iter("abcdeijklmnopqrstuvw")
        self.readers = ["ra", "rb"][:pick.randint(1, 2)]
        rows = [f"flag {name} {bound}" for name, bound in self.flags.items()]
        rows += [f"register {name}" for name in self.registers]
        rows += ["writer"] + self.actor(self.write, [])
        for name in self.readers:
            rows += ["reader " + name] + self.actor(self.read, ["again"])
        return "\n".join(rows) if len(rows) <= 40 else self.text()

    def actor(self, sweep, more):
        rows = self.block(sweep, more, 0)
        rows.insert(0, sweep())
        if self.random.random() < 0.3:
            rows.reverse()
            rows = [row for row in rows if row.split(" ")[0] not in ("if", "else", "end")]
        return rows

    def write(self):
        return f"write {self.random.choice(self.registers)} {self.random.choice(['up', 'down'])}"

    def read(self):
        return f"read {self.random.choice(self.registers)} {self.random.choice(['up', 'down'])} as {next(self.names)}"

    def block(self, sweep, more, depth):
        rows = []
        for _ in range(self.random.randint(0, 3)):
            kind = self.random.choice(["sweep", "flag", "flag", "if"] + more)
            if kind == "sweep":
                rows.append(sweep())
            elif kind == "flag" and self.flags:
                rows.append(self.flag_line())
            elif kind == "if" and depth < 3:
                rows.append(f"if {self.random.choice('st')} is {self.random.choice(['0', '1', '2', 's', 't', 'u'])}")
                rows += self.block(sweep, more, depth + 1)
                if self.random.random() < 0.6:
                    rows += ["else"] + self.block(sweep, more, depth + 1)
                rows.append("end")
            elif kind == "again" and (depth or self.random.random() < 0.2):
                rows.append("again")
        return rows

    def flag_line(self):
        name = self.random.choice(list(self.flags))
        number = self.random.randrange(self.flags[name])
        mark = self.random.choice("st")
        return self.random.choice([
            f"set {name} {number}", f"step {name}", f"wait {name} {number}", f"look {name} as {mark}",
            f"look {name} as {mark}",
        ])

    def values(self, cells, versions):
        top = self.random.choice([2, 10])
        return sorted(tuple(self.random.randrange(top) for _ in range(cells)) for _ in range(versions))

    def order(self, length):
        actors = ["writer"] + self.readers
        order = []
        while len(order) < length:
            order += [self.random.choice(actors)] * self.random.randint(1, 6)
        return order[:length]
