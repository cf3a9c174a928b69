"""The shortest, then least packet that leads from one place to another."""


def shortest_way(start, is_wanted, ways_from):
    """The shortest, then least packet that leads from a place to one that is wanted, or None.

    ways_from gives the list of the pairs (byte, place behind it) of a place, ascending by their bytes.
    """
    if is_wanted(start):
        return ()
    packets = {start: ()}
    waiting = [start]
    at = 0
    while at < len(waiting):
        here = waiting[at]
        for byte, place in ways_from(here):
            if place not in packets:
                packets[place] = packets[here] + (byte,)
                # Looked at as soon as it is found, so that no longer packet comes ahead of it.
                if is_wanted(place):
                    return packets[place]
                waiting.append(place)
        at += 1
    return None
