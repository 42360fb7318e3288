"""Writing: from a program to its rows of text (point 13)."""

from hushrow.rows import IfRow, LoopRow


def rows_written(rows):
    texts = []
    for row in rows:
        texts.append(row.shown())
        texts.extend(inside_written(row))
    return texts


def inside_written(row):
    """What stands behind a row's own text, to its end."""
    if isinstance(row, IfRow):
        return rows_written(row.first) + ["else"] + rows_written(row.other) + ["end"]
    if isinstance(row, LoopRow):
        return rows_written(row.body) + ["end"]
    return []


def written(program):
    texts = [head.shown() for head in program.heads]
    for deed in program.deeds:
        texts.extend([deed.shown()] + rows_written(deed.body) + ["end"])
    return texts + ["main"] + rows_written(program.main) + ["end"]
