"""Numbers from 0 on within limits that come to no more than 0, or prices of the limits that show there are none."""


def exchanged(board, at, by, divisor):
    """The board when the number of a column stands in a row, and the row's in the column.

    All entries are what they stand for times the divisor; what it is divided by here goes into it without a rest.
    """
    chosen = board[at]
    worth = chosen[by]
    after = []
    for place, row in enumerate(board):
        if place == at:
            fresh = list(row)
            fresh[by] = divisor
        else:
            factor = row[by]
            fresh = [(entry * worth - factor * other) // divisor for entry, other in zip(row, chosen)]
            fresh[by] = -factor
        after.append(fresh)
    return after


def least_named(names, wanted):
    """The place of the least name among those that are wanted; None if none is."""
    places = [place for place, is_wanted in enumerate(wanted) if is_wanted]
    return min(places, key=lambda place: names[place]) if places else None


def told_by(many, names, entries):
    """So many numbers: by name the entry that stands beside it, 0 for names that are none of these."""
    entry_of = {name: entry for name, entry in zip(names, entries)}
    return [entry_of.get(name, 0) for name in range(many)]


def ray_or_prices(limits, goal):
    """("ray", numbers) or, if there are none, ("prices", numbers), all of them from 0 on.

    The numbers of a ray, each times its entry in a limit and added, come to no more than 0 for each limit, and to more
    than 0 for the goal. Prices, by limit: at each place the limits' entries, each times its price and added, come to no
    less than the goal's entry times some integer above 0, the same one at all places.
    """
    many = len(goal)
    board = [list(limit) for limit in limits] + [[-entry for entry in goal]]
    divisor = 1
    # A limit has, behind the numbers, what it lacks to 0; all begin with these, and with no number above 0.
    outside = list(range(many))
    inside = list(range(many, many + len(limits)))
    while True:
        # Always the least name, out and in: otherwise the same exchanges could come round for ever.
        by = least_named(outside, [entry < 0 for entry in board[-1]])
        if by is None:
            return "prices", told_by(many + len(limits), outside, board[-1])[many:]
        at = least_named(inside, [row[by] > 0 for row in board[:-1]])
        if at is None:
            named = [outside[by]] + inside
            return "ray", told_by(many, named, [divisor] + [-row[by] for row in board[:-1]])
        following = board[at][by]
        board = exchanged(board, at, by, divisor)
        divisor = following
        outside[by], inside[at] = inside[at], outside[by]
