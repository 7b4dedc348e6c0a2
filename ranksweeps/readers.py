"""Readers: machines that read a row of 0 and 1 cell by cell and tell what chains make of it."""
from ranksweeps.chains import joint_direction
from ranksweeps.parts import through
from ranksweeps.searches import traced
from ranksweeps.stations import Window, joining_station, window_of, window_station


class Layout:
    """The stations of chains in the order in which they work. Stream 0 is the row, stream k that of station k - 1."""

    def __init__(self, backward):
        # Whether the row is read from its last cell on, as cells in place from the end need it.
        self.backward = backward
        self.stations = []

    def put(self, station):
        """Add a station and return the number of its stream."""
        self.stations.append(station)
        return len(self.stations)

    def delay_of(self, stream):
        """Return how many cells the stream is behind the row."""
        return 0 if stream == 0 else self.stations[stream - 1].delay

    def delayed(self, stream, delay):
        """Return a stream with the same cells and this delay."""
        late = delay - self.delay_of(stream)
        if late == 0:
            return stream
        return self.put(window_station(Window(0, late, [0]), stream, self.delay_of(stream)))

    def together(self, streams):
        """Return the list of streams with the cells of these, all with the same delay."""
        delay = max([int(self.delay_of(stream)) for stream in streams])
        return [self.delayed(stream, delay) for stream in streams]

    def swept(self, sweep, stream, mirrored, dual):
        """Return the stream of what a sweep makes of a stream."""
        return self.put(window_station(window_of(sweep, mirrored, dual), stream, self.delay_of(stream)))

    def joined(self, kind, first, second):
        """Return the stream of the greater ("higher") or the lesser cells of two streams."""
        one, two = self.together([first, second])
        return self.put(joining_station(one, two, kind, self.delay_of(one)))

    def put_chain(self, chain, stream):
        """Return the stream of what a chain makes of a stream."""
        return through(self, chain, stream, self.backward, False)


class Reader:
    """A machine that tells letters: tuples of the cells that some streams have at the same place.

    It tells letters[state][cell] when it reads the cell, None as long as there is none, and ends[state], a list,
    when the row ends. If it is backward, it reads and tells from the last cell on.
    """

    def __init__(self, steps, letters, ends, backward):
        self.steps = steps
        self.letters = letters
        self.ends = ends
        self.backward = backward


def reader_of(layout, streams):
    """Return the reader that tells the cells of these streams."""
    watched = layout.together(streams)
    stations = layout.stations
    keys, steps, letters = traced(tuple([0 for _ in stations]),
                                  lambda key: [read(stations, watched, key, cell) for cell in (0, 1)])
    return Reader(steps, letters, [ended(stations, watched, key) for key in keys], layout.backward)


def read(stations, watched, key, cell):
    """Return (key, letter): the states of the stations behind this cell, and what the watched streams have now."""
    cells = [cell]
    states = []
    for station, state in zip(stations, key):
        come = [cells[source] for source in station.sources]
        # Of sources with the same delay, either all have come or none.
        if come[0] is None:
            states.append(state)
            cells.append(None)
        else:
            states.append(station.steps[state][sum(come)])
            cells.append(station.made[state][sum(come)])
    letter = tuple([cells[stream] for stream in watched])
    return tuple(states), None if letter[0] is None else letter


def ended(stations, watched, key):
    """Return the list of the letters that are told when the row ends."""
    streams = [[]]
    for station, state in zip(stations, key):
        come = [streams[source] for source in station.sources]
        made = []
        for cells in zip(*come):
            made.append(station.made[state][sum(cells)])
            state = station.steps[state][sum(cells)]
        streams.append([cell for cell in made if cell is not None] + station.ends[state])
    last = [streams[stream] for stream in watched]
    return list(zip(*last))


def pair_reader(first, second):
    """Return the reader that tells the cells that two chains make of the row."""
    layout = Layout(joint_direction(first.direction, second.direction) == "back")
    return reader_of(layout, [layout.put_chain(first, 0), layout.put_chain(second, 0)])


def passes_reader(chain, numbers):
    """Return the reader that tells the cells after these numbers of passes, ascending, the row itself being 0."""
    layout = Layout(chain.direction == "back")
    streams = [0]
    for _ in range(numbers[-1]):
        streams.append(layout.put_chain(chain, streams[-1]))
    return reader_of(layout, [streams[number] for number in numbers])
