"""What counts as a whole number, a row and a gift, told once for every door."""

from evenhand.errors import BadRow

BOUND = 1000000


def is_whole(value):
    # To Python True and False are numbers; here they are none.
    return isinstance(value, int) and not isinstance(value, bool)


def is_share(value):
    return is_whole(value) and -BOUND <= value <= BOUND


# The words of a refusal never show the value: of any kind, it may be one that can't be written out.
def check_row(row):
    if not isinstance(row, list) or len(row) == 0:
        raise BadRow("a row is a list of one share or more")
    for share in row:
        if not is_share(share):
            raise BadRow("a share is a whole number from -1000000 to 1000000")


def is_place(value, count):
    return is_whole(value) and 0 <= value < count


def is_gift(value, count):
    if not isinstance(value, tuple) or len(value) != 3:
        return False
    if not is_place(value[0], count) or not is_place(value[1], count):
        return False
    return value[0] != value[1] and is_whole(value[2]) and value[2] > 0
