"""First hits: the least i from 0 on at which start + step i leaves less than many, divided by a round."""


def first_hit(start, step, whole, many):
    if start % whole < many:
        return 0
    step = step % whole
    low = (-start) % whole
    # A list in the place of calls within calls: a hundred figures may go down nearly five hundred levels.
    levels = []
    while step != 0:
        high = low + many - 1
        hit = divided_up(low, step)
        if step * hit <= high:
            return climbed(levels, hit)
        levels.append((whole, step, low))
        # No multiple of step is from low to high, so their rests lie apart by many - 1 below as well.
        low = (-high) % step
        rest = whole % step
        whole = step
        step = rest
    return None


def climbed(levels, hit):
    for whole, step, low in reversed(levels):
        hit = divided_up(whole * hit + low, step)
    return hit


def divided_up(number, by):
    return -((-number) // by)
