"""Names of makes: the checks that orders and records share."""

from chairstack.errors import DuplicateMake, Full, InvalidName, UnknownMake

LONGEST_NAME = 12


def is_name(text):
    """True if the text is 1 to 12 letters from a to z."""
    return len(text) <= LONGEST_NAME and text.isascii() and text.isalpha() and text.islower()


def check_new_make(makes, name):
    """Raise an error unless the name can be added to the makes."""
    if not is_name(name):
        raise InvalidName(name)
    if name in makes:
        raise DuplicateMake(name)


def check_makes(makes, most):
    """Raise an error unless the makes are at most so many different names."""
    if len(makes) > most:
        raise Full(most)
    for index, make in enumerate(makes):
        check_new_make(makes[:index], make)


def check_known(makes, name):
    """Raise an error unless the name is one of the makes."""
    if name not in makes:
        raise UnknownMake(name)


def make_index(makes, name):
    """The index of the make; an error if it is not in the list."""
    check_known(makes, name)
    return makes.index(name)


def pair_places(makes, pairs):
    """The indexes of the two makes of each pair; an error names the first make that is not in the list."""
    return [(make_index(makes, upper), make_index(makes, lower)) for upper, lower in pairs]
