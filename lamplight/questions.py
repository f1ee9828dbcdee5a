"""Questions of a homestead, and their answers by its house and book."""

from lamplight.added import fewest_added
from lamplight.counting import count_carryings
from lamplight.goingon import next_rooms
from lamplight.kinds import is_positive, is_row
from lamplight.leastledgers import ledgers_with
from lamplight.ledgers import find_lit
from lamplight.onelaw import holds, paper_of, short_rooms
from lamplight.severallamps import lamps_wanted

ALONE = ("holds", "short", "paper", "added", "lamps", "carryings")
OF_ROOM = ("begin", "doors")
OF_HOURS = "ledgers"
MOST_HOURS = 20


def is_question_of(house, thing):
    """Tell of any object whether it is a question of a house."""
    if not is_row(thing) or len(thing) == 0:
        return False
    if thing[0] in ALONE:
        return len(thing) == 1
    if len(thing) != 2:
        return False
    if thing[0] in OF_ROOM:
        return house.has(thing[1])
    return thing[0] == OF_HOURS and is_positive(thing[1]) and thing[1] <= MOST_HOURS


def answer_of(house, book, question):
    """Tell the answer to what is known to be a question."""
    if question[0] == "doors":
        return len(house.near(question[1]))
    if question[0] == OF_HOURS:
        return ledgers_with(house, question[1])
    return answer_by_book(house, book, question) if find_lit(house, book) else None


def answer_by_book(house, book, question):
    word = question[0]
    if word == "holds":
        return holds(house, book)
    if word == "short":
        return len(short_rooms(house, book))
    if word == "paper":
        paper = paper_of(house, book)
        return None if paper is None else paper[0]
    if word == "begin":
        return question[1] in next_rooms(house, book, [])
    if word == "added":
        return fewest_added(house, book)
    return lamps_wanted(house, book) if word == "lamps" else count_carryings(house, book)
