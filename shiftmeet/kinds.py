"""Kinds of plans by which all hands of one kind meet: pairs of primes, and grids of rows and columns."""

from shiftmeet.errors import NoPlan, NoPrimes
from shiftmeet.wholes import least_part, least_round


def pair_plan(one, other):
    if one == other or not is_prime(one) or not is_prime(other):
        raise NoPrimes("a pair plan is made of two unlike primes")
    return [(one, 0, 1), (other, 0, 1)]


def is_prime(number):
    return number >= 2 and least_part(number) == number


def pair_wait(ones, others):
    return least_product(ones, others)[0]


def pair_paper(ones, others):
    # Unlike primes have no divisor but 1 in common, so the shifts of their two wakings are all shifts.
    return ("in", least_product(ones, others)[1])


def least_product(ones, others):
    # Beside each product stands its number among the shifts of the two plans.
    products = []
    for number, one in enumerate(ones):
        for beside, other in enumerate(others):
            if one != other:
                products.append((one * other, number * len(others) + beside))
    return min(products)


def grid_plan(number):
    if number < 1:
        raise NoPlan("a grid plan is made of a number from 1 on")
    return [(number, 0, 1), (number * number, 0, number)]


def grid_wait(one, other):
    greater = max(one, other)
    return least_round([greater * greater, min(one, other)])


def grid_paper(one, other):
    # The greater number's row, its second waking, lasts as long as the lesser one's first waking takes to come again,
    # so at every shift these two meet. They are the shifts' waking number 2, or 1 where the lesser one is told first.
    return ("in", 1 if one < other else 2)
