"""What the possible ledgers of a box cost that leaves no room dark."""

from lamplight.errors import BadPrices
from lamplight.houses import is_by_rooms
from lamplight.kinds import is_positive, need_number
from lamplight.roomhours import need_whole
from lamplight.waysums import find_heights, keeps_heights
from lamplight.wholeboxes import base_hours, gain_rooms, tight_rooms, worthiest_way


def least_price(house, box, prices):
    need_priced(house, box, prices)
    through = worthiest_way(house, find_worth(house, box, prices))
    base = sum([base_hours(house, box, room) * prices[room] for room in house.rooms()])
    return base - sum([prices[room] for room in gain_rooms(house, box) if room in through])


def dear_way(house, box, prices):
    need_priced(house, box, prices)
    through = worthiest_way(house, find_worth(house, box, prices))
    return through if through[0] <= through[-1] else through[::-1]


def heights(house, box, prices, number):
    need_priced(house, box, prices)
    need_number(number)
    return find_heights(house, find_worth(house, box, prices), number)


def are_heights(house, box, prices, number, thing):
    need_priced(house, box, prices)
    need_number(number)
    return keeps_heights(house, find_worth(house, box, prices), number, thing)


def need_prices(house, prices):
    if not is_by_rooms(house, prices) or not all([is_positive(prices[room]) for room in prices]):
        raise BadPrices(prices)


def need_priced(house, box, prices):
    need_whole(house, box)
    need_prices(house, prices)


def find_worth(house, box, prices):
    gain = gain_rooms(house, box)
    tight = tight_rooms(house, box)
    # Each tight room is worth more than all that is not tight, so that none is left out.
    more = sum([prices[room] for room in house.rooms()]) + 1
    told = {}
    for room in house.rooms():
        told[room] = (prices[room] if room in gain else 0) + (more if room in tight else 0)
    return told
