"""Lines: very many demands in blocks, and offers that cover stretches of them."""

from payorder.checks import are_amounts, is_integer, is_tuple_of
from payorder.errors import NoPosition, NoPositions
from payorder.limits import MAX_BLOCKS, MAX_DEMANDS, MAX_OFFERS
from payorder.payments import choose_full, pay_along


def is_line(value):
    """Return whether value is a line."""
    if not is_tuple_of(value, 2):
        return False
    blocks, stretches = value
    return are_blocks(blocks) and are_stretches(stretches)


def are_blocks(value):
    """Return whether value is a tuple of 1 to MAX_BLOCKS disjoint blocks in ascending order."""
    if not isinstance(value, tuple) or not 1 <= len(value) <= MAX_BLOCKS:
        return False
    if not all([is_span(block) for block in value]):
        return False
    return all([block[1] < following[0] for block, following in zip(value, value[1:])])


def are_stretches(value):
    """Return whether value is a tuple of at most MAX_OFFERS stretches."""
    if not isinstance(value, tuple) or len(value) > MAX_OFFERS:
        return False
    return all([is_span(stretch) for stretch in value])


def is_span(value):
    """Return whether value is a tuple of two positions, the second one not lower, and an amount."""
    # Positions are the same integers as amounts.
    return are_amounts(value, 3) and value[0] <= value[1]


def line_payments(line):
    """Return the payments along the order of the positions, as rows (first, last, payment)."""
    segments = segments_of(line)
    rows = []
    for segment, total in zip(segments, segment_payments(line, segments)):
        rows.extend(rows_of_segment(segment, total))
    return tuple(joined(rows))


def segments_of(line):
    """Return the list of the segments (first, last, penalty): parts of blocks in which no stretch begins or ends."""
    blocks, stretches = line
    cuts = sorted(set([low for low, high, price in stretches] + [high + 1 for low, high, price in stretches]))
    segments = []
    for first, last, penalty in blocks:
        starts = [first] + [cut for cut in cuts if first < cut <= last]
        ends = [start - 1 for start in starts[1:]] + [last]
        segments.extend([(start, end, penalty) for start, end in zip(starts, ends)])
    return segments


def segment_data(line, segments):
    """Return (table, prices, penalties) in which each segment is one demand.

    A choice covers all demands of a segment or none, and along the order of the positions they pay as much together
    as one demand with all their penalties. So costs and totals are the same as those of the line.
    """
    table, prices, penalties = data_at(line, [first for first, last, penalty in segments])
    return table, prices, tuple([(last - first + 1) * penalty for first, last, penalty in segments])


def data_at(line, positions):
    """Return (table, prices, penalties) of the line with only the demands at the given positions."""
    blocks, stretches = line
    offers = [places_within(low, high, positions) for low, high, price in stretches]
    prices = [price for low, high, price in stretches]
    penalties = [penalty_at(blocks, position) for position in positions]
    return (len(positions), tuple(offers)), tuple(prices), tuple(penalties)


def places_within(low, high, positions):
    """Return the ascending tuple of the indexes of the positions from low to high."""
    return tuple([place for place, position in enumerate(positions) if low <= position <= high])


def penalty_at(blocks, position):
    """Return the penalty of the demand at the position."""
    return [penalty for first, last, penalty in blocks if first <= position <= last][0]


def segment_payments(line, segments):
    """Return the tuple of what the demands of each segment pay together."""
    table, prices, penalties = segment_data(line, segments)
    return pay_along(table, prices, penalties, tuple(range(len(segments))))


def rows_of_segment(segment, total):
    """Return the list of the rows of a segment whose demands pay that total together."""
    first, last, penalty = segment
    if total == (last - first + 1) * penalty:
        return [(first, last, penalty)]
    # Some demands pay their penalties, the next one fills an offer that covers all of them, and the others pay nothing.
    filling = first + total // penalty
    rows = [(first, filling - 1, penalty), (filling, filling, total % penalty), (filling + 1, last, 0)]
    return [row for row in rows if row[0] <= row[1]]


def joined(rows):
    """Return the list of the rows, with adjacent rows of the same payment made one."""
    found = []
    for first, last, payment in rows:
        if found and found[-1][1] + 1 == first and found[-1][2] == payment:
            found[-1] = (found[-1][0], last, payment)
        else:
            found.append((first, last, payment))
    return found


def line_payment(line, position):
    """Return the payment of one demand."""
    if not is_demand(line, position):
        raise NoPosition(position)
    return [payment for first, last, payment in line_payments(line) if first <= position <= last][0]


def is_demand(line, value):
    """Return whether value is a demand of the line."""
    return is_integer(value) and any([first <= value <= last for first, last, penalty in line[0]])


def line_cost(line):
    """Return the lowest cost of a choice."""
    return sum(segment_payments(line, segments_of(line)))


def line_choice(line):
    """Return a cheapest choice, an ascending tuple of stretches."""
    segments = segments_of(line)
    table, prices, penalties = segment_data(line, segments)
    return choose_full(table, prices, penalties, tuple(range(len(segments))))


def line_table(line, positions):
    """Return (table, prices, penalties) for some demands of the line."""
    if not are_demands(line, positions):
        raise NoPositions()
    return data_at(line, positions)


def are_demands(line, value):
    """Return whether value is an ascending tuple of 1 to MAX_DEMANDS demands of the line."""
    if not isinstance(value, tuple) or not 1 <= len(value) <= MAX_DEMANDS:
        return False
    if not all([is_demand(line, position) for position in value]):
        return False
    return all([position < following for position, following in zip(value, value[1:])])
