"""The rule by which signed counts go on."""

from pairedaway.systems import System, sign_values

# The numbers of bits of some primes that are all ones in base 2. By a prime the shortest rule is found at once, but
# some of its numbers may be too great for the prime, or it may seem shorter than it is. The former ends with 1279
# bits, as no number of a rule of 400 states has more than 930. The latter is so only of a prime that divides a
# certain determinant of signed counts, which has less than 400000 bits: it ends with the last prime, if not before.
POWERS = (61, 127, 521, 1279, 2203, 4423, 9689, 19937, 44497, 86243, 216091, 756839)


def inverse(number, prime):
    """Return the number by which this one gives 1 modulo the prime."""
    one, other = prime, number
    of_one, of_other = 0, 1
    while other:
        times = one // other
        one, other = other, one - times * other
        of_one, of_other = of_other, of_one - times * of_other
    return of_one % prime


def missing(rule, terms, at, prime):
    """Return what the terms up to this index, each times its item of the rule, add up to modulo the prime."""
    behind = terms[at + 1 - len(rule):at + 1]
    return sum([factor * term for factor, term in zip(rule, behind[::-1])]) % prime


def mixed(rule, factor, other, times, gap, prime):
    """Return the rule times the factor, less the other one so many times, moved by the gap, modulo the prime."""
    moved = [0] * gap + other
    wide = max(len(rule), len(moved))
    one = rule + [0] * (wide - len(rule))
    moved = moved + [0] * (wide - len(moved))
    return [(factor * item - times * less) % prime for item, less in zip(one, moved)]


def shortest_rule(terms, prime):
    """Return the list of the numbers by which the terms go on modulo the prime, as few of them as there may be.

    The numbers are those nearest to 0. (This is the algorithm of Berlekamp and Massey.)
    """
    rule = [1]
    # The rule before it was last made longer, what it missed, and how many terms ago.
    before, missed, gap = [1], 1, 1
    for at in range(len(terms)):
        now = missing(rule, terms, at, prime)
        if now == 0:
            gap += 1
            continue
        longer = mixed(rule, missed, before, now, gap, prime)
        if len(longer) > len(rule):
            before, missed, gap = rule, now, 1
        else:
            gap += 1
        rule = longer
    unit = -inverse(rule[0], prime)
    numbers = [factor * unit % prime for factor in rule[1:]]
    return [number if 2 * number < prime else number - prime for number in numbers]


def holds(rule, terms):
    """Return whether each of the terms that has enough others ahead of it comes from them by the rule."""
    back = rule[::-1]
    for at in range(len(rule), len(terms)):
        if terms[at] != sum([factor * term for factor, term in zip(back, terms[at - len(rule):at])]):
            return False
    return True


def recurrence(machine, signs):
    """Return the shortest tuple of integers by which the signed counts go on."""
    system = System([(machine, signs, (0,) * machine[0])])
    marks = [[(sign, 0) for sign in sign_values(signs)]]
    sums, terms = system.ends, []
    for length in range(2 * system.size):
        terms.append(sums[system.starts[0]])
        sums = system.step(sums, marks)
    rule = []
    for power in POWERS:
        rule = shortest_rule(terms, (1 << power) - 1)
        # What holds for as many terms in a row as there are classes holds for all.
        if holds(rule, terms[:len(rule) + system.size]):
            break
    return tuple(rule)
