"""All walks of so many steps."""

from fairtrees.bounds import WALKS
from fairtrees.errors import TooMany


def walks(machine, standing, length):
    """Tell a list of all walks of so many steps from a standing, rising; TooMany where there are more than 2000."""
    counts = counts_of(machine, length)
    if counts[length][standing] > WALKS:
        raise TooMany("more than 2000 walks")
    told = [(standing,)]
    for left in range(length - 1, -1, -1):
        # Walks that cannot be ended are not begun, so there are never more of them than are told in the end.
        told = [(*walk, other) for walk in told for other in machine[0][walk[-1]] if counts[left][other] > 0]
    return told


def counts_of(machine, length):
    """Tell, for each number of steps up to length, how many walks of so many begin at each standing."""
    counts = [[1 for row in machine[0]]]
    for step in range(length):
        counts.append([sum([counts[step][other] for other in row]) for row in machine[0]])
    return counts
