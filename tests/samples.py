"""Programs for the tests: some written out, and any number drawn by a seed; and a second way to run them."""

import random

# Every head, every row, ifs and loops within one another, deeds that call deeds.
WHOLE = """
hand ann open
hand bob house
hand cy closed
given a open
given b house
given c closed
given la open 3
given lc closed 1
own x
own y
own r 4
own s 1
let m open
let n closed
deed f
end
deed g p
set p p + 1
put r p p
end
deed h u v w z
set u v - w
call g z
if u < v
say u w by n
else
end
loop v most 2 idle 1 4
last
if w = 0 idle 0 2
set x r at u
set y la at 1
else
end
end
end
main
set x a
set y c over 3
put r 0 x
put r x la at y
loop 5 most 6
loop x most 3 idle 0 9
if y
last
else
send bob y rest 2
end
end
if x = 2
last
else
set x x + 1
end
end
send ann x
send cy lc at 0
say x c * 2 by m
call f
call g x
call h 1 x 2 y
if x
else
send cy 7
end
end
""".strip().split("\n")

# The language's words as names, at every place where a name may stand.
SPELLED = """
hand hand open
hand send house
given given open
given open house
given list closed 2
own own
own set
own over
own at
own idle
own by
own put 3
own rest 1
let let open
let most closed
deed deed main end else if
set main end
if else idle 1 0
set end idle
else
end
loop if most 3
last
end
end
deed call
end
main
set own own
set set set + set
set over over over over
set at put at at
set idle rest at idle
put put at put at at
say by by by let
say idle idle rest idle by most
send hand given
send send open
call deed own 0 by given
call call
if idle idle 0 3
else
end
if idle
else
end
loop idle most 100
if idle rest idle idle 1 0
last
else
end
end
loop by most 1 idle 2 3
end
end
""".strip().split("\n")

BETWEEN = ["+", "-", "*", "over", "rest", "<", "="]
WORDS = ["open", "house", "closed"]


class Drawn:
    """Rows of a program, drawn by a random source, and what is needed to draw gifts for it."""

    def __init__(self, seed):
        self.random = random.Random(seed)
        self.numbers = {"a": self.rank(), "b": self.rank(), "c": 2}
        self.lists = {"la": (self.rank(), self.random.randrange(1, 4)), "lb": (self.rank(), 2)}
        self.sizes = {"r": self.random.randrange(1, 5), "s": 2}
        self.hands = {"ann": 0, "bob": self.rank(), "cy": 2}
        self.marks = {"m": self.rank(), "n": self.rank()}
        self.left = list(self.marks)
        self.deeds = {}
        rows = self.heads()
        for name in ["f", "g", "h"][: self.random.randrange(4)]:
            rows += self.deed(name)
        self.parts = []
        self.rows = rows + ["main"] + self.body(0, False) + ["end"]

    def rank(self):
        return self.random.choice([0, 0, 1, 2])

    def heads(self):
        rows = [f"hand {name} {WORDS[rank]}" for name, rank in self.hands.items()]
        rows += [f"given {name} {WORDS[rank]}" for name, rank in self.numbers.items()]
        rows += [f"given {name} {WORDS[rank]} {size}" for name, (rank, size) in self.lists.items()]
        rows += ["own x", "own y", "own z"] + [f"own {name} {size}" for name, size in self.sizes.items()]
        return rows + [f"let {name} {WORDS[rank]}" for name, rank in self.marks.items()]

    def deed(self, name):
        self.parts = [name + sign for sign in "pqr"[: self.random.randrange(4)]]
        rows = [" ".join(["deed", name] + self.parts)] + self.body(1, False) + ["end"]
        self.deeds[name] = len(self.parts)
        return rows

    def thing(self):
        names = list(self.numbers) + ["x", "y", "z"] + self.parts * 2
        return self.random.choice(names + ["0", "1", str(self.random.randrange(5))])

    def value(self):
        kind = self.random.randrange(4)
        if kind == 0:
            return f"{self.thing()} {self.random.choice(BETWEEN)} {self.thing()}"
        if kind == 1:
            return f"{self.random.choice(list(self.lists) + list(self.sizes))} at {self.thing()}"
        return self.thing()

    def target(self):
        return self.random.choice(["x", "y", "z"] + self.parts * 2)

    def idles(self):
        pair = (self.random.randrange(4), self.random.randrange(6))
        return "" if self.random.randrange(2) or pair == (0, 0) else f" idle {pair[0]} {pair[1]}"

    def body(self, deep, looped):
        rows = []
        for count in range(self.random.randrange(5 - deep if deep < 4 else 2) + (deep == 0)):
            rows += self.row(deep, looped)
        return rows

    def row(self, deep, looped):
        kind = self.random.choice(["set", "set", "put", "send", "send", "say", "call", "last", "if", "if", "loop"])
        if kind == "put":
            return [f"put {self.random.choice(list(self.sizes))} {self.thing()} {self.value()}"]
        if kind == "send":
            return [f"send {self.random.choice(list(self.hands))} {self.value()}"]
        if kind == "say" and self.left:
            return [f"say {self.target()} {self.value()} by {self.left.pop()}"]
        if kind == "call" and self.deeds:
            name = self.random.choice(list(self.deeds))
            return [" ".join(["call", name] + [self.thing() for part in range(self.deeds[name])])]
        if kind == "last" and looped:
            return ["last"]
        if kind == "if" and deep < 4:
            one, other = self.body(deep + 1, looped), self.body(deep + 1, looped)
            return ["if " + self.value() + self.idles()] + one + ["else"] + other + ["end"]
        if kind == "loop" and deep < 3:
            head = f"loop {self.thing()} most {self.random.randrange(1, 5)}{self.idles()}"
            return [head] + self.body(deep + 1, True) + ["end"]
        return [f"set {self.target()} {self.value()}"]

    def number(self):
        return self.random.choice([0, 0, 1, 2, 3, 5, 10 ** 12 - 1])

    def gifts(self):
        gifts = {name: self.number() for name in self.numbers}
        gifts.update({name: [self.number() for place in range(size)] for name, (rank, size) in self.lists.items()})
        return gifts

    def gifts_alike(self, gifts, rank):
        """Other gifts, alike for the rank."""
        ranks = {**self.numbers, **{name: pair[0] for name, pair in self.lists.items()}}
        return {name: gifts[name] if ranks[name] <= rank else gift for name, gift in self.gifts().items()}


def rows_of(program):
    """All rows of a program, heads and deeds among them."""
    found, waiting = [], program.heads + program.deeds + program.main
    while waiting:
        row = waiting.pop()
        found.append(row)
        for name in ("body", "first", "other"):
            waiting += getattr(row, name, [])
    return found


def drawn(count, start=0):
    return [Drawn(seed) for seed in range(start, start + count)]


class Second:
    """A run by jumps from row to row of the text: a second way to reckon what the runner tells."""

    def __init__(self, rows, gifts):
        self.words = [row.split(" ") for row in rows]
        self.cells, self.owns, self.deeds = {}, [], {}
        self.letters, self.said, self.trace, self.steps = [], [], [], 0
        self.meet()
        for at, words in enumerate(self.words):
            if words[0] == "given":
                gift = gifts[words[1]]
                self.cells[words[1]] = list(gift) if isinstance(gift, list) else gift
            elif words[0] == "own":
                self.owns.append(words[1])
                self.cells[words[1]] = [0] * int(words[2]) if len(words) == 3 else 0
            elif words[0] == "deed":
                self.deeds[words[1]] = (at, words[2:])
                self.cells.update({part: 0 for part in words[2:]})
        self.go(self.words.index(["main"]))
        self.ends = {name: self.cells[name] for name in self.owns}

    def meet(self):
        """From each row that opens to its else or end, and from each else to its end."""
        self.mate, opened = {}, []
        for at, words in enumerate(self.words):
            if words[0] in ("deed", "main", "if", "loop"):
                opened.append(at)
            elif words[0] in ("else", "end"):
                self.mate[opened.pop()] = at
                if words[0] == "else":
                    opened.append(at)

    def thing(self, word):
        return int(word) if word[0].isdigit() else self.cells[word]

    def value(self, words):
        if len(words) == 1:
            return self.thing(words[0])
        one, word, other = words
        behind = self.thing(other)
        if word == "at":
            return self.cells[one][behind % len(self.cells[one])]
        ahead = self.thing(one)
        if word in "+-*":
            return {"+": ahead + behind, "-": ahead - behind, "*": ahead * behind}[word] % 10 ** 12
        if word in ("over", "rest"):
            return divmod(ahead, behind)[word == "rest"] if behind else {"over": 0, "rest": ahead}[word]
        return int(ahead < behind if word == "<" else ahead == behind)

    def go(self, at):
        # What is open, innermost last: ["if", idle], ["loop", at, wanted, done], ["call", at], ["main"].
        opened = [["main"]]
        while opened:
            at += 1
            words = self.words[at]
            if words[0] == "else":
                at = self.mate[at] - 1
            elif words[0] == "end":
                at = self.end(opened, at)
            else:
                self.steps += 1
                told = None
                if words[0] == "send":
                    told = self.value(words[2:])
                    self.letters.append((self.steps, at + 1, words[1], told))
                elif words[0] == "say":
                    told = self.value(words[2:-2])
                    self.said.append((self.steps, at + 1, words[-1], told))
                    self.cells[words[1]] = told
                self.trace.append((at + 1, self.steps, told))
                at = self.do(opened, at, words)

    def do(self, opened, at, words):
        if words[0] == "set":
            self.cells[words[1]] = self.value(words[2:])
        elif words[0] == "put":
            cells = self.cells[words[1]]
            cells[self.thing(words[2]) % len(cells)] = self.value(words[3:])
        elif words[0] == "last":
            [one for one in opened if one[0] == "loop"][-1][2] = 0
        elif words[0] == "call":
            start, parts = self.deeds[words[1]]
            self.cells.update(zip(parts, [self.thing(word) for word in words[2:]]))
            opened.append(["call", at])
            return start
        elif words[0] == "if":
            idle = [int(words[-2]), int(words[-1])] if len(words) in (5, 7) else [0, 0]
            if self.value(words[1:4] if len(words) in (4, 7) else words[1:2]):
                opened.append(["if", idle[0]])
            else:
                opened.append(["if", idle[1]])
                return self.mate[at]
        elif words[0] == "loop":
            opened.append(["loop", at, self.thing(words[1]), 0])
            return self.turn(opened)
        return at

    def turn(self, opened):
        """Into the next round of the innermost loop, or out of it."""
        word, at, wanted, done = opened[-1]
        words = self.words[at]
        if done < min(wanted, int(words[3])):
            opened[-1][3] += 1
            return at
        opened.pop()
        self.steps += (int(words[3]) - done) * (int(words[6]) if len(words) == 7 else 0)
        return self.mate[at]

    def end(self, opened, at):
        innermost = opened[-1]
        if innermost[0] == "loop":
            words = self.words[innermost[1]]
            self.steps += int(words[5]) if len(words) == 7 else 0
            return self.turn(opened)
        opened.pop()
        if innermost[0] == "if":
            self.steps += innermost[1]
        return innermost[1] if innermost[0] == "call" else at
