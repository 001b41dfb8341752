"""What the other files need of integers: what one is, powers, digits."""


def is_whole(told):
    """Tell whether something is an integer."""
    return isinstance(told, int) and not isinstance(told, bool)


def is_count(told):
    """Tell whether something is an integer from 0 on."""
    return is_whole(told) and told >= 0


def is_index(told, many):
    """Tell whether something is an integer from 0 on, below many."""
    return is_count(told) and told < many


def power(base, times):
    """Return the product of so many times the base."""
    result = 1
    for _ in range(times):
        result = result * base
    return result


def digits_of(number, base, many):
    """Return the list of the last so many digits of a number, the greatest place first."""
    digits = []
    for _ in range(many):
        number, digit = divmod(number, base)
        digits.append(digit)
    return digits[::-1]
