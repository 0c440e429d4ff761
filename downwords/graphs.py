"""What is reached in a graph, which is a dict from each place to the places one step away."""


def reached_from(steps, start):
    """Return all places that are reached from a place by one or more steps, ascending."""
    found = {}
    waiting = [start]
    while waiting:
        place = waiting.pop()
        for after in steps.get(place, ()):
            if after not in found:
                found[after] = True
                waiting.append(after)
    return sorted(found)


def listed_with_needs(steps, place, listed):
    """Return the list with a place behind all that are reached from it, where they are not listed yet.

    The steps lead back to no place. They are taken in their order.
    """
    if place in listed:
        return listed
    for needed in steps.get(place, ()):
        listed = listed_with_needs(steps, needed, listed)
    return [*listed, place]
