"""What is a number, a text, a name, a tuple: each function says it of anything."""

# The words of sayings: a mark called by one of them could not be told from it in a text.
KEPT = ("yes", "no", "not", "and", "or", "step", "some", "all", "next", "once", "ever", "until", "unless")

LONGEST = 8


def is_number(thing):
    """Say whether the thing is a number. Python counts True and False as ints; here they are none."""
    return isinstance(thing, int) and not isinstance(thing, bool)


def is_number_from(thing, least, most):
    """Say whether the thing is a number from least to most, both of them counted in."""
    return is_number(thing) and least <= thing <= most


def is_truth(thing):
    """Say whether the thing is True or False; 1 and 0 equal them but are neither."""
    return thing is True or thing is False


def is_text(thing):
    """Say whether the thing is a text."""
    return isinstance(thing, str)


def is_text_of(thing, texts):
    """Say whether the thing is one of these texts."""
    # The kind is asked first: another kind of thing may call itself equal to a text.
    return is_text(thing) and thing in texts


def is_name(thing):
    """Say whether the thing is a name: one to eight letters from a to z, and no word of sayings."""
    if not is_text(thing) or not 1 <= len(thing) <= LONGEST:
        return False
    # Python's own isalpha and islower take letters that are not from a to z.
    return thing not in KEPT and all(["a" <= sign <= "z" for sign in thing])


def is_tuple(thing):
    """Say whether the thing is a tuple; a list stands for none."""
    return isinstance(thing, tuple)


def is_tuple_of(thing, least, most):
    """Say whether the thing is a tuple of least to most things, both of them counted in."""
    return is_tuple(thing) and least <= len(thing) <= most


def same(thing, told):
    """Say whether the thing is what is told, which has nothing but tuples, numbers and texts in it."""
    if is_tuple(told):
        if not is_tuple_of(thing, len(told), len(told)):
            return False
        return all([same(one, other) for one, other in zip(thing, told)])
    # Plain equality would take True for 1.
    if is_number(told):
        return is_number(thing) and thing == told
    return is_text(thing) and thing == told
