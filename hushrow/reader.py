"""Reading: from rows of text to a program (points 9 to 14)."""

from hushrow.costs import most, mosts
from hushrow.errors import NoName, NoNest, NoRow, TooLong, TooMuch
from hushrow.forms import form_of
from hushrow.names import Names
from hushrow.rows import CallRow, DeedRow, GivenRow, HandRow, IfRow, LastRow, LetRow, LoopRow
from hushrow.rows import OwnRow, Program, PutRow, SayRow, SendRow, SetRow

MOST_ROWS = 200
MOST_DEEDS = 8
# Ifs and loops within one another, of one deed or of main.
MOST_DEEP = 6
MOST_STEPS = 10000
HEADS = ("hand", "given", "own", "let")


def head_made(number, form):
    if form[0] == "hand":
        return HandRow(number, form[1], form[2])
    if form[0] == "given":
        return GivenRow(number, form[1], form[2], form[3])
    if form[0] == "own":
        return OwnRow(number, form[1], form[2])
    return LetRow(number, form[1], form[2])


def row_made(number, form):
    """The row of this form, what it holds still empty; None for main, else and end."""
    word = form[0]
    if word in HEADS:
        return head_made(number, form)
    if word == "deed":
        return DeedRow(number, form[1], form[2], [])
    if word == "set":
        return SetRow(number, form[1], form[2])
    if word == "put":
        return PutRow(number, form[1], form[2], form[3])
    if word == "send":
        return SendRow(number, form[1], form[2])
    if word == "say":
        return SayRow(number, form[1], form[2], form[3])
    if word == "call":
        return CallRow(number, form[1], form[2])
    if word == "last":
        return LastRow(number)
    if word == "if":
        return IfRow(number, form[1], [], [], form[2], form[3])
    if word == "loop":
        return LoopRow(number, form[1], form[2], [], form[3], form[4])
    return None


# A deed, main, if or loop that is open: the word it is at, its row, and where its next rows go.
class Opened:
    def __init__(self, word, row, rows):
        self.word = word
        self.row = row
        self.rows = rows


class Reader:
    def __init__(self):
        self.program = Program([], [], [])
        self.names = Names()
        # The innermost one stands last.
        self.opened = []
        self.begun = False

    def take(self, number, text):
        if number > MOST_ROWS:
            raise TooMuch(number)
        form = form_of(text)
        if form is None:
            raise NoRow(number)
        if not self.may_stand(form[0]):
            raise NoNest(number)
        row = row_made(number, form)
        if row is None:
            self.turn(form[0])
        else:
            self.check(number, row)
            self.names.keep(row)
            self.place_row(form[0], row)

    def inside(self, word):
        """Whether what is innermost is at this word."""
        return self.opened != [] and self.opened[-1].word == word

    def may_stand(self, word):
        if word in HEADS:
            return self.program.deeds == [] and not self.begun
        if word == "deed" or word == "main":
            return self.opened == [] and not self.begun
        if word == "else":
            return self.inside("if")
        if word == "end":
            return self.opened != [] and not self.inside("if")
        if word == "last":
            return any([one.word == "loop" for one in self.opened])
        return self.opened != []

    def check(self, number, row):
        name = self.names.fault(row)
        if name is not None:
            raise NoName(number, name)
        if isinstance(row, DeedRow) and len(self.program.deeds) >= MOST_DEEDS:
            raise TooMuch(number)
        # One of what is open is the deed or main itself.
        if (isinstance(row, IfRow) or isinstance(row, LoopRow)) and len(self.opened) - 1 >= MOST_DEEP:
            raise TooMuch(number)

    def turn(self, word):
        """Does what main, else and end do: they open, turn or end something, and are no rows of the tree."""
        if word == "main":
            self.begun = True
            self.opened.append(Opened(word, None, self.program.main))
        elif word == "else":
            innermost = self.opened[-1]
            innermost.word = word
            innermost.rows = innermost.row.other
        else:
            ended = self.opened.pop()
            if ended.word == "deed":
                self.names.end_deed()

    def place_row(self, word, row):
        if word in HEADS:
            self.program.heads.append(row)
        elif word == "deed":
            self.program.deeds.append(row)
        else:
            self.opened[-1].rows.append(row)
        if word == "deed" or word == "loop":
            self.opened.append(Opened(word, row, row.body))
        elif word == "if":
            self.opened.append(Opened(word, row, row.first))

    def done(self, number):
        """The program, where it is whole; number is the one behind the last row's."""
        if self.opened != [] or not self.begun:
            raise NoNest(number)
        return self.program


def check_steps(program):
    known = mosts(program)
    for steps in [known[deed.name] for deed in program.deeds] + [most(program)]:
        if steps > MOST_STEPS:
            raise TooLong(steps)


def read(rows):
    reader = Reader()
    for number, text in enumerate(rows, start=1):
        reader.take(number, text)
    program = reader.done(len(rows) + 1)
    check_steps(program)
    return program
