"""Letters: whole numbers from 0 to p - 1, reckoned with modulo p."""


def over(p, a, b):
    return a * inverse(p, b) % p


# Euclid's way from p and b down to 1: at each step rest is times * b, modulo p,
# so the times that belong to the last rest but 0, which is 1, are what is sought.
def inverse(p, b):
    last_rest = p
    last_times = 0
    rest = b % p
    times = 1
    while rest != 0:
        quotient = last_rest // rest
        next_rest = last_rest - quotient * rest
        next_times = last_times - quotient * times
        last_rest = rest
        last_times = times
        rest = next_rest
        times = next_times
    return last_times % p


def total(p, pairs, word):
    reached = 0
    for place, factor in pairs:
        if word[place] is not None:
            reached = (reached + factor * word[place]) % p
    return reached
