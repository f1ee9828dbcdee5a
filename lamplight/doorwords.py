"""Words for doors, chosen together: what the branches ask by the words of their doors, from the rims inward.

A branch is what lies behind a door, seen from one room of a house. The words that a door can have are pairs
(count, mark): what it counts at the room on this side, and whether it marks this room. Of each room it is known what
it has; reckon(had, word, count, mark) tells the least that the room itself asks if its own door, towards the room from
which all is seen, has the word of this place, its other doors count so much together, and one marks it or none does;
None if that cannot be. What branches and rooms ask is to be as little as can be, together.
"""

from lamplight.ways import towards


def asks_by_words(words, reckon, had, behind):
    """Tell the row of what a branch asks by each word of its door, by what its room has and the branches behind ask."""
    table = put_together(words, behind)
    told = []
    for word in range(len(words)):
        choice = best_choice(reckon, had, word, table)
        told.append(None if choice is None else choice[0])
    return tuple(told)


def asks_inward(inside, have, words, reckon):
    """Tell of each room what its branch asks by each word, seen from the least room, which has no door towards it."""
    steps = towards(inside, inside.rooms()[0])
    told = {}
    for room in reversed(list(steps)):
        behind = [told[other] for other in inside.near(room) if other != steps[room]]
        told[room] = asks_by_words(words, reckon, have[room], behind)
    return told


def choose_words(inside, have, words, reckon, word):
    """Tell of each room the pair (word of its door towards the least room, what it asks itself), so that all is least.

    The word that the least room has as its own is passed; None is told if it cannot have it.
    """
    asks = asks_inward(inside, have, words, reckon)
    root = inside.rooms()[0]
    if asks[root][word] is None:
        return None
    steps = towards(inside, root)
    chosen = {root: word}
    told = {}
    for room in steps:
        behind = [other for other in inside.near(room) if other != steps[room]]
        table = put_together(words, [asks[other] for other in behind])
        _, own, row = best_choice(reckon, have[room], chosen[room], table)
        told[room] = (chosen[room], own)
        for other, each in zip(behind, row):
            chosen[other] = each
    return told


def put_together(words, behind):
    """Tell by (count, mark) the least that some branches ask together, and the words of their doors in that case."""
    table = {(0, False): (0, [])}
    for asks in behind:
        further = {}
        for count, mark in table:
            least, row = table[(count, mark)]
            for word, ask in enumerate(asks):
                if ask is not None:
                    state = (count + words[word][0], mark or words[word][1])
                    if state not in further or least + ask < further[state][0]:
                        further[state] = (least + ask, row + [word])
        table = further
    return table


def best_choice(reckon, had, word, table):
    """Tell what is asked in all, what the room asks itself, and the words behind, None if the word cannot be."""
    best = None
    for count, mark in table:
        own = reckon(had, word, count, mark)
        least, row = table[(count, mark)]
        if own is not None and (best is None or least + own < best[0]):
            best = (least + own, own, row)
    return best
