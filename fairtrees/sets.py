"""What rises, and what is a set of standings."""

from fairtrees.signs import is_name, is_number, is_number_from, is_text, is_tuple, is_tuple_of


def is_rising(thing):
    """Say of anything whether it is a tuple of numbers or one of texts, each greater than the one ahead."""
    if not is_tuple(thing):
        return False
    if not all([is_number(one) for one in thing]) and not all([is_text(one) for one in thing]):
        return False
    return all([low < high for low, high in zip(thing, thing[1:])])


def is_set(thing, many):
    """Say of anything whether it is a set of the standings of a machine that has so many."""
    return is_rising(thing) and all([is_number_from(one, 0, many - 1) for one in thing])


def is_names(thing, most):
    """Say of anything whether it is a rising tuple of at most so many names."""
    return is_tuple_of(thing, 0, most) and is_rising(thing) and all([is_name(one) for one in thing])


def set_of(standings):
    """Tell the set of these standings, which may come in any order and more than once."""
    return tuple(sorted(set(standings)))


def joined(one, other):
    """Tell the set of what is in one of both or in both."""
    return tuple(sorted(set(one) | set(other)))


def common(one, other):
    """Tell the set of what is in both."""
    return tuple(sorted(set(one) & set(other)))


def without(one, other):
    """Tell the set of what is in the one and not in the other."""
    return tuple(sorted(set(one) - set(other)))
