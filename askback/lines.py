"""Straight lines over exponents, and the least of a few of them.

A line is (slope, worth): at an exponent it is slope * exponent + worth. A piece
is (slope, worth, first, last): a line from one exponent to another one, last
None where there is no end.
"""


def least_at(lines, exponent):
    """The least that any of the lines is at the exponent, 0 where that is below 0."""
    slope, worth = lines[0]
    least = slope * exponent + worth
    for slope, worth in lines[1:]:
        height = slope * exponent + worth
        if height < least:
            least = height
    return least if least > 0 else 0


def above_nought(lines):
    """The first and the last exponent at which all lines are above 0.

    Last is None where there is no end, and less than first where there is none.
    """
    first, last = 0, None
    for slope, worth in lines:
        if slope > 0:
            first = max(first, -((worth - 1) // slope))
        elif slope < 0:
            end = (worth - 1) // -slope
            last = end if last is None else min(last, end)
        elif worth <= 0:
            return 0, -1
    return first, last


def pieces_of(lines):
    """Pieces that together are the least of the lines, where that is above 0."""
    first, last = above_nought(lines)
    pieces = []
    while last is None or first <= last:
        # Of lines that are even here the one that falls behind the others is the least further on.
        _, slope, worth = min([(slope * first + worth, slope, worth) for slope, worth in lines])
        end = last
        for other_slope, other_worth in lines:
            if other_slope < slope:
                even = (other_worth - worth) // (slope - other_slope)
                end = even if end is None else min(end, even)
        pieces.append((slope, worth, first, end))
        if end is None:
            break
        first = end + 1
    return pieces
