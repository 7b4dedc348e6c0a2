"""Machines that are found by a search in breadth."""


def explored(start, follow, most):
    """Return (keys, steps) of the machine that starts at a key, or None if it has more than `most` states.

    follow(key) is a list of the keys that the letters lead to. The keys stand in the order in which they are met.
    Operators call no function that they are passed: for them, `joined` of ranksweeps.least does this with tables.
    """
    places = {start: 0}
    keys = [start]
    steps = []
    while len(steps) < len(keys):
        step = []
        for key in follow(keys[len(steps)]):
            if key not in places:
                if len(keys) == most:
                    return None
                places[key] = len(keys)
                keys.append(key)
            step.append(places[key])
        steps.append(tuple(step))
    return keys, steps
