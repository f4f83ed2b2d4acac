"""Situations woven together: each stands in one row for each form, and a setting of a form stays in its row."""


def copies(kinds, weight):
    """Each of some kinds as many times as its weight tells, copies beside one another."""
    return tuple([kind for kind, many in zip(kinds, weight) for _ in range(many)])


def showing(kinds, form, many):
    """By filling of a form, of which there are so many, the ascending situations that show it."""
    lots = [[] for _ in range(many)]
    for situation, kind in enumerate(kinds):
        lots[kind[form]].append(situation)
    return lots


def rows_by_place(kinds, form, many):
    """Rows of the m-th situations that show each filling of a form; all fillings are shown equally often."""
    lots = showing(kinds, form, many)
    return [tuple([lot[place] for lot in lots]) for place in range(len(lots[0]))]


def woven_moves(many, rows_by_form):
    """By situation, of which there are so many, and form the row in which it stands."""
    stands = [[None] * len(rows_by_form) for _ in range(many)]
    for form, rows in enumerate(rows_by_form):
        for row in rows:
            for situation in row:
                stands[situation][form] = row
    return tuple([tuple(rows) for rows in stands])


def moves_by_place(kinds, sizes):
    """The moves from the m-th situation that shows what stands to the m-th one that shows what is set."""
    return woven_moves(len(kinds), [rows_by_place(kinds, form, many) for form, many in enumerate(sizes)])
