"""Whole numbers, sequences, primes and the powers of primes."""

from threeshapes.errors import BadPrime

PRIMES = (2, 3, 5)


def is_whole(thing, low=None, high=None):
    """Tell whether thing is a whole number from low to high; None stands for no bound."""
    if isinstance(thing, bool) or not isinstance(thing, int):
        return False
    if low is not None and thing < low:
        return False
    return high is None or thing <= high


def is_sequence(thing):
    """Tell whether thing is a list or a tuple."""
    return isinstance(thing, (list, tuple))


def check_prime(thing):
    """Return the prime, or raise BadPrime."""
    # Asked ahead of the primes themselves, for 2.0 is equal to 2.
    if not is_whole(thing) or thing not in PRIMES:
        raise BadPrime(thing)
    return thing


def prime_power(prime, exponent):
    """Return the power of a whole number to an exponent from 0; nothing is checked."""
    power = 1
    square = prime
    left = exponent
    # Squared step by step, because an exponent may have thousands of steps.
    while left > 0:
        if left % 2 == 1:
            power = power * square
        left = left // 2
        if left > 0:
            square = square * square
    return power


def exponent_of(prime, number):
    """Return how often the prime divides a number that is not 0; nothing is checked."""
    exponent = 0
    while number % prime == 0:
        number = number // prime
        exponent = exponent + 1
    return exponent
