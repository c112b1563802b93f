"""Whole numbers: the greatest divisor, the least round, the least part."""


def divisor(one, other):
    while other != 0:
        rest = one % other
        one = other
        other = rest
    return one


def least_round(numbers):
    whole = 1
    for number in numbers:
        whole = whole * (number // divisor(whole, number))
    return whole


def least_part(number):
    for small in (2, 3):
        if number % small == 0:
            return small
    # A prime above 3 is next to a multiple of 6, so all others can be passed over.
    part = 5
    while part * part <= number:
        if number % part == 0:
            return part
        if number % (part + 2) == 0:
            return part + 2
        part += 6
    return number
