"""Machines that were looked at already: where settings lead, and by which runs situations come."""


def settings_in(bond):
    """All settings of a bond, ascending."""
    return [(side, filling) for side in (0, 1) for filling in range(bond[side])]


def settings_on(machine):
    """All settings that a machine takes, ascending."""
    return [(side, filling) for side, row in enumerate(machine[2][0]) for filling in range(len(row))]


def behind(machine, situation, setting):
    """The situation behind a setting."""
    side, filling = setting
    return machine[2][situation][side][filling]


def behind_all(machine, situation, run):
    """The situation behind the settings of a run, one after another."""
    for setting in run:
        situation = behind(machine, situation, setting)
    return situation


def back_again(machine, situation, setting):
    """The situation behind a setting and, if it set its form to another filling, the setting back of what stood."""
    side, filling = setting
    stood = machine[1][situation][side]
    found = machine[2][situation][side][filling]
    return found if filling == stood else machine[2][found][side][stood]


def first_runs(machine):
    """By situation that can come its first run, in the order of these runs."""
    runs = {machine[0]: ()}
    queue = [machine[0]]
    done = 0
    while done < len(queue):
        situation = queue[done]
        done += 1
        for side, row in enumerate(machine[2][situation]):
            for filling, found in enumerate(row):
                if found not in runs:
                    runs[found] = runs[situation] + ((side, filling),)
                    queue.append(found)
    return runs


def renumbered(machine, numbers, many):
    """The machine whose situation numbers[x] is shown and led as x is, of which there are so many."""
    start, kinds, moves = machine
    shows = [None] * many
    leads = [None] * many
    for situation, number in numbers.items():
        shows[number] = kinds[situation]
        leads[number] = tuple([tuple([numbers[found] for found in row]) for row in moves[situation]])
    return numbers[start], tuple(shows), tuple(leads)


def numbered(marks):
    """By place a number, the same for equal marks, in the order in which they first stand."""
    numbers = {}
    for mark in marks:
        if mark not in numbers:
            numbers[mark] = len(numbers)
    return [numbers[mark] for mark in marks]


def alikeness(machine):
    """By situation a number, the same just for alike ones."""
    groups = numbered(machine[1])
    following = [left + right for left, right in machine[2]]
    while True:
        marks = [(group, tuple([groups[found] for found in row])) for group, row in zip(groups, following)]
        finer = numbered(marks)
        # Marks hold the group, so groups only part; as many as before are the same ones.
        if max(finer) == max(groups):
            return groups
        groups = finer


def parting_run(one, x, other, y):
    """The first run behind which x of the one machine and y of the other show unlike pairs; None if none does."""
    if one[1][x] != other[1][y]:
        return ()
    seen = {(x, y): True}
    queue = [(x, y, ())]
    done = 0
    while done < len(queue):
        x, y, run = queue[done]
        done += 1
        for side in (0, 1):
            for filling, found in enumerate(zip(one[2][x][side], other[2][y][side])):
                if one[1][found[0]] != other[1][found[1]]:
                    return run + ((side, filling),)
                if found not in seen:
                    seen[found] = True
                    queue.append((found[0], found[1], run + ((side, filling),)))
    return None
