"""The desk: drafts, programs and gifts by their names, and lines that ask of them (point 33)."""

from hushrow.errors import Leak, NoLine, Unknown
from hushrow.evening import evened
from hushrow.lines import line_of
from hushrow.looker import let_by
from hushrow.pairs import walk
from hushrow.ranks import word_of
from hushrow.reader import read
from hushrow.rows import GivenRow, OwnRow
from hushrow.runner import run
from hushrow.tries import told_apart
from hushrow.writer import written


def kept(things, name):
    if name not in things:
        raise Unknown(name)
    return things[name]


def add_answer(desk, line):
    draft = desk.drafts.setdefault(line[1], [])
    draft.append(line[2])
    return "ok"


def read_answer(desk, line):
    desk.programs[line[1]] = read(kept(desk.drafts, line[1]))
    return "ok"


def drop_answer(desk, line):
    kept(desk.drafts, line[1])
    desk.drafts.pop(line[1])
    desk.programs.pop(line[1], None)
    return "ok"


def rows_answer(desk, line):
    return str(len(written(kept(desk.programs, line[1]))))


def row_answer(desk, line):
    texts = written(kept(desk.programs, line[1]))
    return texts[line[2] - 1] if 1 <= line[2] <= len(texts) else "none"


def look_answer(desk, line):
    program = kept(desk.programs, line[1])
    try:
        let_by(program, line[2])
    except Leak as leak:
        return leak_shown(leak)
    return "let by"


def leak_shown(leak):
    row = leak.row
    rank = word_of(leak.rank)
    along = " > ".join([leak.chain[0][0]] + [link[1] for link in leak.chain])
    return f"row {row} {rank}: {along}"


def even_answer(desk, line):
    program = evened(kept(desk.programs, line[1]), line[3])
    desk.programs[line[2]] = program
    desk.drafts[line[2]] = written(program)
    return "ok"


def give_answer(desk, line):
    gifts = desk.gifts.setdefault(line[1], {})
    gifts[line[2]] = line[3]
    return "ok"


def run_answer(desk, line):
    program = kept(desk.programs, line[1])
    book = run(program, kept(desk.gifts, line[2]))
    texts = [f"{step} {hand} {number}" for step, row, hand, number in book.letters]
    return "; ".join(texts + ["end " + str(book.steps)])


def value_answer(desk, line):
    program = kept(desk.programs, line[1])
    gifts = kept(desk.gifts, line[2])
    if line[3] not in [head.name for head in program.heads if isinstance(head, OwnRow)]:
        raise Unknown(line[3])
    end = run(program, gifts).ends[line[3]]
    if isinstance(end, list):
        return " ".join([str(number) for number in end])
    return str(end)


def part_answer(desk, line):
    program = kept(desk.programs, line[1])
    one = kept(desk.gifts, line[3])
    parted = walk(program, line[2], one, kept(desk.gifts, line[4]))[1]
    return "alike" if parted is None else "row " + str(parted[0])


def try_answer(desk, line):
    program = kept(desk.programs, line[1])
    if line[2] not in [head.name for head in program.heads if isinstance(head, GivenRow)]:
        raise Unknown(line[2])
    apart = told_apart(program, line[2], line[3])
    return "open" if apart is None else "letter " + str(apart[2][0])


ANSWERS = {
    "add": add_answer,
    "read": read_answer,
    "drop": drop_answer,
    "rows": rows_answer,
    "row": row_answer,
    "look": look_answer,
    "even": even_answer,
    "give": give_answer,
    "list": give_answer,
    "run": run_answer,
    "value": value_answer,
    "part": part_answer,
    "try": try_answer,
}


class Desk:
    def __init__(self):
        self.drafts = {}
        self.programs = {}
        self.gifts = {}

    def say(self, line):
        told = line_of(line)
        if told is None:
            raise NoLine()
        return ANSWERS[told[0]](self, told)
