"""Ways from place to place, some with an asking: which of them end, and the circle with the fewest askings.

Ways are a list that has for each place a dict: by the next places, the move that leads there, None without asking.
"""


def ends_of(ways):
    """Tell, by its place, each from which all ways end, and how long the longest one is, its last move too."""
    befores = [[] for _ in ways]
    for place, ahead in enumerate(ways):
        for target in ahead:
            befores[target].append(place)
    left = [len(ahead) for ahead in ways]
    ended = [place for place, many in enumerate(left) if many == 0]
    ends = {}
    while ended:
        place = ended.pop()
        ends[place] = 1 + max([ends[target] for target in ways[place]], default=0)
        for before in befores[place]:
            left[before] -= 1
            if left[before] == 0:
                ended.append(before)
    return ends


def without(ways, ends):
    """Tell the ways between those places alone that aren't among the ends, numbered anew in their order."""
    kept = [place for place in range(len(ways)) if place not in ends]
    numbers = {place: number for number, place in enumerate(kept)}
    return [{numbers[target]: move for target, move in ways[place].items() if target in numbers} for place in kept]


def least_share(ways):
    """Tell the tuple (askings, moves) of a circle that has the fewest askings by its moves.

    No way ends, and all places come from the first one. It is told by Karp's theorem: of each place that
    comes by as many moves as there are places, the greatest of the shares by which the fewest askings to it
    grow from some fewer moves to these; the least of all these.
    """
    many = len(ways)
    rows = [[0] + [None] * (many - 1)]
    for _ in range(many):
        rows.append(_one_further(ways, rows[-1]))
    best = None
    for place in range(many):
        if rows[many][place] is not None:
            share = _greatest_share(rows, place)
            if best is None or _is_less(share, best):
                best = share
    return best


def numbers_along(ways, askings, moves):
    """Tell a number for each place such that each move leads to at most the number here and its weight.

    The weight is moves where it asks, else 0, less askings. There are such numbers where no circle has fewer
    askings by its moves than so many.
    """
    numbers = [0] * len(ways)
    moved = True
    while moved:
        moved = False
        for place, ahead in enumerate(ways):
            for target, move in ahead.items():
                number = numbers[place] + _weight(move, askings, moves)
                if number < numbers[target]:
                    numbers[target] = number
                    moved = True
    return numbers


def circle_along(ways, numbers, askings, moves):
    """List the places of a circle each of whose moves leads to just the number that numbers_along lets at most."""
    tight = [
        {
            target: move for target, move in ahead.items()
            if numbers[target] == numbers[place] + _weight(move, askings, moves)
        }
        for place, ahead in enumerate(ways)
    ]
    ends = ends_of(tight)
    place = min([place for place in range(len(ways)) if place not in ends])
    row = []
    while place not in row:
        row.append(place)
        place = min([target for target in tight[place] if target not in ends])
    return row[row.index(place):]


def path_to(ways, goal):
    """List the places of a shortest way from the first place to the goal, both too."""
    befores = {0: None}
    reached = [0]
    while goal not in befores:
        further = []
        for place in reached:
            for target in ways[place]:
                if target not in befores:
                    befores[target] = place
                    further.append(target)
        reached = further
    row = [goal]
    while befores[row[-1]] is not None:
        row.append(befores[row[-1]])
    return row[::-1]


def moves_along(ways, row):
    """List the moves from place to place of a row."""
    return [ways[place][target] for place, target in zip(row, row[1:])]


def _weight(move, askings, moves):
    return -askings if move is None else moves - askings


def _one_further(ways, row):
    """Tell the fewest askings to each place, None where it doesn't come, by one move more."""
    further = [None] * len(row)
    for place, many in enumerate(row):
        if many is not None:
            for target, move in ways[place].items():
                askings = many if move is None else many + 1
                if further[target] is None or askings < further[target]:
                    further[target] = askings
    return further


def _greatest_share(rows, place):
    last = len(rows) - 1
    greatest = None
    for moves in range(last):
        if rows[moves][place] is not None:
            share = (rows[last][place] - rows[moves][place], last - moves)
            if greatest is None or _is_less(greatest, share):
                greatest = share
    return greatest


def _is_less(one, other):
    askings, moves = one
    return askings * other[1] < other[0] * moves
