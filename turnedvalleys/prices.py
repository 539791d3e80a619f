"""The prices of runs."""

from turnedvalleys.errors import BadPrices
from turnedvalleys.fewest import unlike_heads
from turnedvalleys.lots import lot
from turnedvalleys.runs import check_length, check_turns


def check_prices(prices):
    """Raise BadPrices unless prices are 1 to 39 numbers from 0 to 10 ** 9."""
    if not 1 <= len(prices) <= 39:
        raise BadPrices(len(prices))
    for i, price in enumerate(prices):
        if not 0 <= price <= 10 ** 9:
            raise BadPrices(i)


def turn_price(row, x, prices):
    """What a turn of the lot of x costs."""
    return prices[min(len(lot(row, x)) - 2, len(prices) - 1)]


def price_of(row, run, prices):
    """What a run costs."""
    check_length(run)
    check_prices(prices)
    check_turns(row, run)
    # Turns change no lot's length.
    return sum([turn_price(row, x, prices) for x in run])


def least_price(one, two, prices):
    """The least price of all runs from one to two."""
    check_prices(prices)
    return sum([turn_price(one, x, prices) for x in unlike_heads(one, two)])
