"""A chain part by part, for rows of 0 and 1: turned and mirrored parts come down to what their sweeps do."""

DUAL_KIND = {"higher": "lower", "lower": "higher"}


def through(host, chain, given, mirrored, dual):
    """Return what becomes of what is given, seen from the end if mirrored, with 0 and 1 exchanged if dual.

    What is given and returned means something to the host alone. Its swept(sweep, given, mirrored, dual) does a
    sweep, and its joined(kind, one, two) takes the greater ("higher") or the lesser cells of both.
    """
    if chain.kind == "sweep":
        return host.swept(chain, given, mirrored, dual)
    first = chain.parts[0]
    if chain.kind == "turned":
        return through(host, first, given, mirrored, not dual)
    if chain.kind == "mirrored":
        return through(host, first, given, not mirrored, dual)
    if chain.kind == "times":
        for _ in range(chain.times):
            given = through(host, first, given, mirrored, dual)
        return given
    one = through(host, first, given, mirrored, dual)
    second = chain.parts[1]
    if chain.kind == "then":
        return through(host, second, one, mirrored, dual)
    two = through(host, second, given, mirrored, dual)
    return host.joined(DUAL_KIND[chain.kind] if dual else chain.kind, one, two)
