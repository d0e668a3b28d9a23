"""Growth: how great a share of lost letters falls, reckoned from mean counts."""


# What counts tell of a share, as a pair of numbers that may not be in lowest terms. The
# powers are gone from the greatest down; each time what is below the line grows as well.
def told_of(counts, x):
    weights = [0] * max([degree for degree, many in counts])
    for degree, many in counts:
        if degree > 0:
            weights[degree - 1] = degree * many
    reached = weights[-1]
    below = 1
    for weight in reversed(weights[:-1]):
        below = below * x[1]
        reached = reached * x[0] + weight * below
    return (reached, below * sum(weights))


def rest_of(x):
    return (x[1] - x[0], x[1])


def grown(letters, checks, share, x):
    lost = rest_of(told_of(checks, rest_of(x)))
    told = told_of(letters, lost)
    return (share[0] * told[0], share[1] * told[1])


def lowest(x):
    divisor = x[1]
    rest = x[0]
    while rest != 0:
        longer = divisor
        divisor = rest
        rest = longer % rest
    return (x[0] // divisor, x[1] // divisor)


def grow(letters, checks, share, x):
    return lowest(grown(letters, checks, share, x))


def unit_of(figures):
    unit = 1
    for figure in range(figures):
        unit = unit * 10
    return unit


def rounded_down(x, unit):
    return x[0] * unit // x[1]


def rounded_up(x, unit):
    return -(-x[0] * unit // x[1])


def first_bounds(share, unit):
    return (rounded_down(share, unit), rounded_up(share, unit))


def next_bounds(letters, checks, share, unit, pair):
    low = grown(letters, checks, share, (pair[0], unit))
    high = grown(letters, checks, share, (pair[1], unit))
    return (rounded_down(low, unit), rounded_up(high, unit))


def bounds(letters, checks, share, figures, steps):
    unit = unit_of(figures)
    told = [first_bounds(share, unit)]
    for step in range(steps):
        told.append(next_bounds(letters, checks, share, unit, told[-1]))
    return told


def fate(letters, checks, share, goal, figures, most):
    unit = unit_of(figures)
    pair = first_bounds(share, unit)
    for step in range(most + 1):
        if pair[1] <= goal:
            return ("falls", step)
        behind = next_bounds(letters, checks, share, unit, pair)
        if behind[0] == pair[0] and pair[0] > goal:
            return ("stays", pair[0])
        pair = behind
    return ("open",)


# Nought always falls, and what is less than one that falls falls too: so the greatest one
# is sought by halves.
def limit(letters, checks, goal, figures, most):
    unit = unit_of(figures)
    good = 0
    bad = unit + 1
    while bad - good > 1:
        middle = (good + bad) // 2
        if fate(letters, checks, (middle, unit), goal, figures, most)[0] == "falls":
            good = middle
        else:
            bad = middle
    return good
