"""What is reached in a graph, which is a dict from each place to the places one step away."""


def reached_from(steps, start):
    """Return all places that are reached from a place by one or more steps, ascending."""
    found = {}
    waiting = [start]
    while waiting:
        place = waiting.pop()
        for after in steps.get(place, ()):
            if after not in found:
                found[after] = True
                waiting.append(after)
    return sorted(found)
