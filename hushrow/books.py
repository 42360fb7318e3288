"""Books: what a run is told as (point 19)."""


class Book:
    def __init__(self):
        # (step, row, hand, number)
        self.letters = []
        # (step, row, mark, number)
        self.said = []
        # (row, step, number)
        self.trace = []
        self.steps = 0
        self.ends = {}
