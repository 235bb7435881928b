"""Peaks, valleys and lakes of a profile. Runs are tuples of a first and a last index."""

from rainvalleys.errors import InvalidValley
from rainvalleys.integers import is_whole_within


def stretches(heights):
    """The maximal runs of neighbouring columns of the same height."""
    runs = []
    first = 0
    for column in range(len(heights)):
        if column + 1 == len(heights) or heights[column + 1] != heights[column]:
            runs.append((first, column))
            first = column + 1
    return runs


def is_peak(heights, first, last):
    """Whether this stretch is higher than the ground on both sides; outside, the ground is always lower."""
    left_is_lower = first == 0 or heights[first - 1] < heights[first]
    right_is_lower = last + 1 == len(heights) or heights[last + 1] < heights[last]
    return left_is_lower and right_is_lower


def peaks(profile):
    """The peaks as runs of columns, from left to right."""
    heights = profile.heights
    return [(first, last) for first, last in stretches(heights) if is_peak(heights, first, last)]


def peak_heights(profile):
    """The heights of the peaks, from left to right."""
    return [profile.heights[first] for first, last in peaks(profile)]


def valleys(profile):
    """The valleys as runs of columns, from left to right."""
    tops = peaks(profile)
    return [(left[1] + 1, right[0] - 1) for left, right in zip(tops, tops[1:])]


def rims(profile, valley):
    """The heights of the left and the right rim of a valley."""
    tops = peak_heights(profile)
    if not is_whole_within(valley, 0, len(tops) - 2):
        raise InvalidValley(valley)
    return tops[valley], tops[valley + 1]


def bounds(tops, peak, height):
    """Whether this peak beside a run of valleys ends the lake with this height."""
    if peak == 0 or peak == len(tops) - 1:
        return tops[peak] >= height
    return tops[peak] > height


def lakes_from(tops, first):
    """The lakes that begin with this valley, the shortest one first."""
    found = []
    height = tops[first + 1]
    for last in range(first + 1, len(tops) - 1):
        if tops[last] > height:
            height = tops[last]
        if bounds(tops, first, height) and bounds(tops, last + 1, height):
            found.append((height, first, last))
    return found


def lakes(profile):
    """All lakes as tuples of the height, the first and the last valley, in ascending order."""
    tops = peak_heights(profile)
    found = []
    for first in range(len(tops) - 2):
        found.extend(lakes_from(tops, first))
    # Found from left to right, the lakes of one height are in order already.
    heights = sorted(set([int(lake[0]) for lake in found]))
    return [lake for height in heights for lake in found if lake[0] == height]
