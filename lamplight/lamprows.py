"""Rows of rooms for several lamps, built up: ways first, then doors gone there and back, then hours waited."""


def there_and_back(rows, doors):
    """Tell rows that go besides there and back through doors, each of which hangs on to rows, or on to other doors."""
    told = [list(row) for row in rows]
    waiting = list(doors)
    while waiting:
        one, other = waiting.pop(0)
        found = [row for row in told if one in row or other in row]
        if found:
            here, there = (one, other) if one in found[0] else (other, one)
            place = found[0].index(here) + 1
            found[0][place:place] = [there, here]
        else:
            waiting.append((one, other))
    return told


def waited_out(rows, hours):
    """Tell rows with all hours that are left waited, of each room where it first stands."""
    left = dict(hours)
    for row in rows:
        for room in row:
            left[room] -= 1
    told = []
    for row in rows:
        longer = []
        for room in row:
            longer += [room for _ in range(1 + left[room])]
            left[room] = 0
        told.append(longer)
    return told
