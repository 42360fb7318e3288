"""Runs of a program (points 16 to 19)."""

from hushrow.books import Book
from hushrow.gifts import cells_of
from hushrow.rows import CallRow, IfRow, LastRow, LoopRow, OwnRow, PutRow, SayRow, SendRow, SetRow
from hushrow.sums import reckon, round_place


# A run under way: what its places hold now, and the book so far.
class Run:
    def __init__(self, program, cells):
        self.deeds = {}
        for deed in program.deeds:
            self.deeds[deed.name] = deed
        self.cells = cells
        self.book = Book()

    def number_at(self, thing):
        return self.cells[thing] if isinstance(thing, str) else thing

    def number_for(self, value):
        if len(value) == 1:
            return self.number_at(value[0])
        behind = self.number_at(value[2])
        if value[1] == "at":
            numbers = self.cells[value[0]]
            return numbers[round_place(behind, len(numbers))]
        return reckon(self.number_at(value[0]), value[1], behind)

    def number_told(self, row):
        if isinstance(row, SendRow) or isinstance(row, SayRow):
            return self.number_for(row.value)
        return None

    def pass_steps(self, count):
        book = self.book
        book.steps += count

    def do_rows(self, rows):
        """Whether a last was run that belongs to the loop around these rows."""
        ending = False
        for row in rows:
            if self.do_row(row):
                ending = True
        return ending

    def do_row(self, row):
        """Whether it was, or held, a last that belongs to the loop around it."""
        self.pass_steps(1)
        book = self.book
        told = self.number_told(row)
        book.trace.append((row.number, book.steps, told))
        if isinstance(row, SetRow):
            self.cells[row.name] = self.number_for(row.value)
        elif isinstance(row, PutRow):
            self.do_put(row)
        elif isinstance(row, SendRow):
            book.letters.append((book.steps, row.number, row.name, told))
        elif isinstance(row, SayRow):
            self.cells[row.name] = told
            book.said.append((book.steps, row.number, row.mark, told))
        elif isinstance(row, CallRow):
            self.do_call(row)
        elif isinstance(row, IfRow):
            return self.do_if(row)
        elif isinstance(row, LoopRow):
            self.do_loop(row)
        return isinstance(row, LastRow)

    def do_put(self, row):
        numbers = self.cells[row.name]
        numbers[round_place(self.number_at(row.place), len(numbers))] = self.number_for(row.value)

    def do_call(self, row):
        deed = self.deeds[row.name]
        # All ahead of the first part: a thing may be a part of this very deed.
        numbers = [self.number_at(thing) for thing in row.things]
        for part, number in zip(deed.parts, numbers):
            self.cells[part] = number
        self.do_rows(deed.body)

    def do_if(self, row):
        if self.number_for(row.value) != 0:
            ending = self.do_rows(row.first)
            self.pass_steps(row.left)
        else:
            ending = self.do_rows(row.other)
            self.pass_steps(row.right)
        return ending

    def do_loop(self, row):
        wanted = min(self.number_at(row.thing), row.most)
        done = 0
        while done < wanted:
            done += 1
            ending = self.do_rows(row.body)
            self.pass_steps(row.left)
            if ending:
                break
        self.pass_steps(row.right * (row.most - done))


def ends_of(program, cells):
    return dict([(head.name, cells[head.name]) for head in program.heads if isinstance(head, OwnRow)])


def run(program, gifts):
    state = Run(program, cells_of(program, gifts))
    state.do_rows(program.main)
    book = state.book
    book.ends = ends_of(program, state.cells)
    return book
