"""Machines that are found by a search in breadth."""


def explored(start, follow, most=None):
    """Return (keys, steps) of the machine that starts at a key, or None if it has more than `most` states.

    Without `most`, it may have any number. follow(key) is a list of the keys that the letters lead to. The keys stand
    in the order in which they are met.
    Operators call no function that they are passed: for them, `joined` of ranksweeps.least does this with tables.
    """
    places = {start: 0}
    keys = [start]
    steps = []
    while len(steps) < len(keys):
        step = []
        for key in follow(keys[len(steps)]):
            if key not in places:
                if len(keys) == most:
                    return None
                places[key] = len(keys)
                keys.append(key)
            step.append(places[key])
        steps.append(tuple(step))
    return keys, steps


def traced(start, follow):
    """Return (keys, steps, told) of the machine that starts at a key and tells something at each step.

    follow(key) is a list of pairs, for each letter the key that it leads to and what is told on the way.
    """
    told = []
    keys, steps = explored(start, lambda key: keys_of(follow(key), told))
    return keys, steps, told


def keys_of(pairs, told):
    """Return the list of the keys of the pairs, and append the tuple of what else is in them to the list `told`."""
    told.append(tuple([said for _, said in pairs]))
    return [key for key, _ in pairs]
