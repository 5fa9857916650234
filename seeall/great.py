"""Kings and rooks on boards of any size, with no row, part or lot gone through for itself [70], [71], [72]."""

from seeall.boards import are_rising_cells, check_cell
from seeall.errors import NoBoard, NoLot, TooGreat
from seeall.shapes import check_whole, is_whole

GREATEST = 10 ** 9
LONGEST_COUNTED = 20
MOST_COUNTED = 400
MOST_ROOKS = 400


def check_sizes(high, wide):
    """Refuse with NoBoard what are not two whole numbers, each from 1 to 10 ** 9."""
    if not is_whole(high, 1, GREATEST) or not is_whole(wide, 1, GREATEST):
        raise NoBoard("high and wide are whole numbers, each from 1 to 10 ** 9")


def in_threes(side):
    """Tell how often the side goes in threes, rounded up."""
    return (side + 2) // 3


def kings(high, wide):
    """Tell how many kings there are, one for each part."""
    check_sizes(high, wide)
    return in_threes(high) * in_threes(wide)


def middle_of(part, side):
    """Tell the row, or column, of the king of the part in that row, or column, of parts."""
    return min(3 * part + 1, side - 1)


def king_at(high, wide, number):
    """Tell the cell of the king of the part of that number."""
    check_whole(number, 0, kings(high, wide) - 1)
    part_row, part_column = divmod(number, in_threes(wide))
    return (middle_of(part_row, high), middle_of(part_column, wide))


def king_of(high, wide, cell):
    """Tell the least number of a part whose king sees the cell."""
    check_sizes(high, wide)
    check_cell((high, wide), cell)
    row, column = cell
    # A cell is seen by its own part's king, and never by one of a part above it or to the left.
    return (row // 3) * in_threes(wide) + column // 3


def rooks(high, wide):
    """Tell the fewest rooks that see all cells."""
    check_sizes(high, wide)
    return min(high, wide)


def ways_to_choose(most, many):
    """Tell, at place k, in how many ways so many can be chosen of k, for k up to most."""
    ways = [0] * (most + 1)
    if many <= most:
        ways[many] = 1
    for total in range(many + 1, most + 1):
        ways[total] = ways[total - 1] * total // (total - many)
    return ways


def signed_ways(most):
    """Tell, at place k, in how many ways k can be left out of most, below 0 where k is odd."""
    ways = [1]
    for left_out in range(most):
        ways.append(-ways[-1] * (most - left_out) // (left_out + 1))
    return ways


def lots_with_all_rows(high, wide, ways):
    """Tell how many lots have one in each row, ways at place k being those to choose the lot of k cells."""
    # What leaves out some rows is taken away, by inclusion and exclusion.
    return sum([sign * ways[(high - rows) * wide] for rows, sign in enumerate(signed_ways(high))])


def lots_with_all_of_both(high, wide, ways):
    """Tell how many lots have one in each row and one in each column."""
    columns_left_out = signed_ways(wide)
    return sum([
        sign * other_sign * ways[(high - rows) * (wide - columns)]
        for rows, sign in enumerate(signed_ways(high))
        for columns, other_sign in enumerate(columns_left_out)
    ])


def rook_lots(high, wide, many):
    """Tell how many lots of so many cells have one in each row, or one in each column."""
    check_sizes(high, wide)
    check_whole(many, 0, MOST_COUNTED)
    longer = max(high, wide)
    if longer > LONGEST_COUNTED:
        raise TooGreat(longer, LONGEST_COUNTED)
    ways = ways_to_choose(high * wide, many)
    rows_or_columns = lots_with_all_rows(high, wide, ways) + lots_with_all_rows(wide, high, ways)
    return rows_or_columns - lots_with_all_of_both(high, wide, ways)


def is_great_lot(high, wide, thing):
    """Tell of anything whether it is a rising tuple of at most four hundred cells."""
    return isinstance(thing, tuple) and len(thing) <= MOST_ROOKS and are_rising_cells((high, wide), thing)


def rooks_see(high, wide, lot):
    """Tell whether rooks on the cells of the lot see all cells."""
    check_sizes(high, wide)
    if not is_great_lot(high, wide, lot):
        raise NoLot("a lot is a rising tuple of at most four hundred cells here")
    return len({row for row, column in lot}) == high or len({column for row, column in lot}) == wide
