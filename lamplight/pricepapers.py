"""Papers that no change that makes a ledger full costs so little."""

from lamplight.added import find_wanted, price_of, wanting_inner
from lamplight.kinds import need_number
from lamplight.ledgers import need_ledger
from lamplight.prices import need_prices
from lamplight.waysums import find_heights, keeps_heights


def price_paper(house, ledger, prices, budget):
    need_budget(house, ledger, prices, budget)
    return find_heights(house, counted_prices(house, ledger, prices), spare_price(house, ledger, prices, budget))


def is_price_paper(house, ledger, prices, budget, thing):
    need_budget(house, ledger, prices, budget)
    counted = counted_prices(house, ledger, prices)
    return keeps_heights(house, counted, spare_price(house, ledger, prices, budget), thing)


def need_budget(house, ledger, prices, budget):
    need_ledger(house, ledger)
    need_prices(house, prices)
    need_number(budget)


def counted_prices(house, ledger, prices):
    """Tell of all rooms what they count: what is saved if the lamp goes through them."""
    wanting = wanting_inner(house, find_wanted(house, ledger))
    return {room: prices[room] if room in wanting else 0 for room in house.rooms()}


def spare_price(house, ledger, prices, budget):
    """Tell what a way has to count to bring the price of all that is wanted down to the budget, perhaps less than 0."""
    return price_of(find_wanted(house, ledger), prices) - budget
